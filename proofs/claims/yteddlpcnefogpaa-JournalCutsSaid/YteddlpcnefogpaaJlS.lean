/- Ahead of the laws of logs: a disk as it stands; a log beside a row of the reference's records. -/
import Derived.Test.YteddlpcnefogpaaJlR
namespace Go.Proofs.Yteddlpcnefogpaa
open Go Go.Proofs Go.RowKit Go.Shelf
set_option maxRecDepth 100000
def stD (row : List UInt8) (kept : Nat) (ops : Int) : Dk := ⟨row, kept, false, 0, 0, ops⟩
theorem stD_app (row z : List UInt8) (kept : Nat) (ops : Int) : (stD row kept ops).append z = (0, stD (row ++ z) kept (ops + 1)) := by
  unfold Dk.append stD Dk.fin
  rfl
theorem stD_rep (row z : List UInt8) (kept : Nat) (ops : Int) : (stD row kept ops).replace z = (0, stD z z.length (ops + 1)) := by
  unfold Dk.replace stD Dk.fin
  rfl
theorem stD_sync (row : List UInt8) (kept : Nat) (ops : Int) : (stD row kept ops).sync = (0, stD row row.length (ops + 1)) := by
  unfold Dk.sync stD Dk.fin
  rfl
theorem stD_cut (row : List UInt8) (ops keep : Int) : (stD row row.length ops).cut keep = ⟨row, row.length, true, 0, 0, ops⟩ := by
  unfold Dk.cut Dk.left stD
  have e : row.length + min (max keep 0).toNat (row.length - row.length) = row.length := by omega
  simp only [e, List.take_length]
theorem stD_nil : Dk.of [] = stD [] 0 0 := rfl
/-- a log lies as it lay beside a row of the reference's records that grew -/
theorem LgAt.row {base B : Nat} {w w' : World} {lb b : Nat} {v vw : Value} {d : Dk} {n c : Int} {rs : List Rec} (h : LgAt base w lb b v d n c) (hr : RRs B w vw rs) (g : w.grownBy w' vw.ownBlock) : LgAt base w' lb b v d n c := by
  have hne : ∀ k cs T fz, w.heap[k]? = some (.cells cs T fz) → T ≠ 48 → vw.ownBlock ≠ some k := fun k cs T fz hk hT e => by
    rcases hr.2 with ⟨rfl, _⟩ | ⟨gg, cap, cur, rfl, _, hg, _⟩
    · simp [Value.ownBlock] at e
    · obtain rfl : gg = k := by simpa [Value.ownBlock] using e
      rw [hk] at hg
      injection hg with q
      injection q with _ q2 _
      exact hT q2
  refine ⟨h.dk.kept g (hne b _ _ _ h.dk.blk (by decide)) (fun k e => ?_), (g.block lb h.lt (fun e => hne lb _ _ _ h.blk (by decide) e.symm)).trans h.blk, h.ge⟩
  rcases h.dk.own.2 with ⟨rfl, _⟩ | ⟨g', cap, cur, rfl, _, hg, _⟩
  · simp [Value.ownBlock] at e
  · obtain rfl : g' = k := by simpa [Value.ownBlock] using e
    exact hne g' _ _ _ hg (by decide)
theorem LgAt.mono {base base' : Nat} {w : World} {lb b : Nat} {v : Value} {d : Dk} {n c : Int} (h : LgAt base w lb b v d n c) (hb : base' ≤ base) : LgAt base' w lb b v d n c := ⟨h.dk.mono hb, h.blk, Nat.le_trans hb h.ge⟩
/-- a new disk, and the log on it -/
theorem open_new (base b : Nat) (v : Value) (w : World) (h : DkAt base w b v (Dk.of [])) :
    Calls Try.prog 13 #[.pointer (some ⟨b, 0, none⟩)] w fun e w' => ∃ lb v' a c, e = .returned (.tuple #[.pointer (some ⟨lb, 0, none⟩), .slice a 0 c, .int .i64 0]) ∧ LgAt base w' lb b v' (stD [] 0 0) 0 0 ∧ Below base w w' := by
  refine (open_any base b v (Dk.of []) w h rfl rfl (by decide)).mono ?_
  rintro e w' ⟨lb, v', vs, xs, rfl, hxs, hys, L, _, T⟩
  rw [show (Dk.of []).row = [] from rfl, scan_nil] at hxs L
  rw [open_nil] at L
  obtain rfl : xs = [] := List.map_eq_nil_iff.1 hxs
  obtain ⟨a, c, rfl⟩ := hys.2.1
  exact ⟨lb, v', a, c, rfl, L, h.below T⟩
end Go.Proofs.Yteddlpcnefogpaa
