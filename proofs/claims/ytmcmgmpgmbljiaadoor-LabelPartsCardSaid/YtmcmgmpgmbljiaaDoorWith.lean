/- label.With. -/
import Derived.Test.YtmcmgmpgmbljiaaDoorIns3
import Derived.Test.YtmcmgmpgmbljiaaDoorBs
namespace Go.Proofs.YtmcmgmpgmbljiaaDoor
open Go Go.Proofs Go.RowKit Go.Shelf
set_option maxRecDepth 100000
theorem insert_any (base : Nat) (v : Value) (zs : List SLab) (p : Nat) (x : SLab) (vb : Nat) (w : World) (hz : zs.length ≤ 100) (hp : p ≤ zs.length) (hv : w.ownsRow base 55 2 v zs.length (labC zs)) (hb : base ≤ w.heap.size)
    (hx : Blk w vb #[.string ⟨x.1.1.toArray⟩, .string ⟨x.1.2.toArray⟩] 55) (hne : v.ownBlock ≠ some vb) :
    Calls Tryd.prog 50 #[v, .int .i64 (p : Int), .slice (some ⟨vb, 0, none⟩) 1 1] w (InsPost base (zs.take p ++ x :: zs.drop p) w) := by
  by_cases h : p = zs.length
  · subst h
    rw [List.take_length, List.drop_length]
    exact insert_end base v zs x vb w hz hv hb hx
  · have hv' := hv
    rcases hv.2 with ⟨_, h0⟩ | ⟨g, cap, cur, rfl, _⟩
    · omega
    · by_cases hr : zs.length + 1 ≤ cap
      · exact insert_shift base g cap zs p x vb w hz (by omega) hr hv' hx (fun e => hne (by simp [Value.ownBlock, e]))
      · exact insert_grow base g cap zs p x vb w hz (by omega) (by omega) hv' hb hx
/-- all labels but that of the name n -/
def othersR (zs : List SLab) (n : List UInt8) : List SLab := zs.filter (keepB [n] false)
def withR (zs : List SLab) (n v : List UInt8) (hs : Short (n, v)) (p : Nat) : List SLab := if v = [] then othersR zs n else (othersR zs n).take p ++ ⟨(n, v), hs⟩ :: (othersR zs n).drop p
set_option maxHeartbeats 4000000 in
theorem with_any (a : Option Addr) (len cap : Nat) (zs : List SLab) (hreach : zs.length ≤ 100) (n v : List UInt8) (hs : Short (n, v)) (p : Nat) (hp : p ≤ (othersR zs n).length) (hP : ∀ k x, (othersR zs n)[k]? = some x → (Op.bytesLess x.1.1 n = true ↔ k < p)) (w : World) (hI : Labs w.heap.size w (.slice a len cap) zs) :
    Calls Tryd.prog 33 #[.slice a len cap, .string ⟨n.toArray⟩, .string ⟨v.toArray⟩] w (NewLabs w (withR zs n v hs p)) := by
  have hol : (othersR zs n).length ≤ 100 := Nat.le_trans (List.length_filter_le _ _) hreach
  have hb0 : Below w.heap.size w (w.alloc (.cells #[.string ⟨n.toArray⟩] 9)) := below_cells _
  have hN : Names (w.alloc (.cells #[.string ⟨n.toArray⟩] 9)).heap.size (w.alloc (.cells #[.string ⟨n.toArray⟩] 9)) (.slice (some ⟨w.heap.size, 0, none⟩) 1 1) [n] := by
    refine .inr ⟨w.heap.size, 0, 1, rfl, by simp, by simp, fun j x hj => ?_⟩
    rcases j with _ | j
    · simp at hj; subst hj
      exact (Boxed.new w 9 (.string ⟨n.toArray⟩)).cell
    · simp at hj
  have hL : Labs (w.alloc (.cells #[.string ⟨n.toArray⟩] 9)).heap.size (w.alloc (.cells #[.string ⟨n.toArray⟩] 9)) (.slice a len cap) zs := by
    rcases hI.below hb0 with h | ⟨b, off, c, e, h1, h2⟩
    · exact .inl h
    · exact .inr ⟨b, off, c, e, by rw [World.size_alloc]; omega, h2⟩
  have H1 := Lib.hid (without_any a (some ⟨w.heap.size, 0, none⟩) len cap 1 1 [n] zs hreach _ hL hN)
  have HPP := Lib.hid hP
  have eO : zs.filter (keepB [n] false) = othersR zs n := rfl
  rw [eO] at H1
  have HO := Lib.hid hp
  obtain ⟨os, hos⟩ : ∃ os, othersR zs n = os := ⟨_, rfl⟩
  rw [hos] at H1 HPP HO hol
  have HS := Lib.hid hos
  clear hP hp hN hL hI eO hos
  by_cases hv0 : v = []
  · have hR : Hid (withR zs n v hs p = os) := by unfold Hid withR; rw [if_pos hv0]; exact HS.out
    subst hv0
    go_enter Tryd.func33, Tryd.ntmps33
    go_wp2_with fail
    refine (H1.out).mono ?_
    rintro e w1 ⟨v1, rfl, hr1, hb1⟩
    have HR1 := Lib.hid hr1
    clear hr1
    go_wp2
    go_ret
    exact ⟨v1, rfl, by rw [hR.out]; exact row_base HR1.out (by simp), hb0.trans (hb1.mono (by simp))⟩
  · have hR : Hid (withR zs n v hs p = os.take p ++ ⟨(n, v), hs⟩ :: os.drop p) := by unfold Hid withR; rw [if_neg hv0, HS.out]
    have hve : v.isEmpty = false := by
      cases h : v with
      | nil => exact absurd h hv0
      | cons _ _ => rfl
    have g1 : ByteArray.toList ⟨v.toArray⟩ = v := by rw [ByteArray.toList_eq]
    clear hv0 HS
    go_enter Tryd.func33, Tryd.ntmps33
    go_wp2_with fail
    refine (H1.out).mono ?_
    rintro e w1 ⟨v1, rfl, hr1, hb1⟩
    have hB1 : Below w.heap.size w w1 := hb0.trans (hb1.mono (by simp))
    have hr1 := row_base (base' := w.heap.size) hr1 (by simp)
    have L1 := labs_of_row hr1
    have hsh : ∃ a len cap, v1 = .slice a len cap := by
      rcases L1 with ⟨⟨_, _, rfl⟩, _⟩ | ⟨b, off, cap, rfl, _⟩
      · exact ⟨_, _, _, rfl⟩
      · exact ⟨_, _, _, rfl⟩
    obtain ⟨a1, len1, cap1, rfl⟩ := hsh
    have HB := Lib.hid (bs_any a1 len1 cap1 os hol n p HO.out HPP.out w1 L1)
    have HR1 := Lib.hid hr1
    clear hr1 L1 H1 hb1 HPP
    go_wp2_with fail
    refine (HB.out).mono ?_
    rintro e w2 ⟨b, rfl, hb2⟩
    have hob : ∀ v : Value, v.ownBlock = none ∨ v.ownBlock ≠ none := fun v => by cases v.ownBlock <;> simp
    have R2 := HR1.out.kept (grown_below hb2) (hob _)
    have hB2 : Below w.heap.size w w2 := hB1.trans (hb2.mono hB1.size)
    have hne : (Value.slice a1 len1 cap1).ownBlock ≠ some w2.heap.size := fun e => by
      obtain ⟨c, fz, h⟩ := row_at2 R2 _ e
      have := (Array.getElem?_eq_some_iff.1 h).1
      omega
    have HI := Lib.hid (insert_any w.heap.size (.slice a1 len1 cap1) os p ⟨(n, v), hs⟩ w2.heap.size (w2.alloc (.cells #[.string ⟨n.toArray⟩, .string ⟨v.toArray⟩] 55)) hol HO.out (R2.alloc _) (by have := hB2.size; simp; omega) (heap_alloc_new w2 _) hne)
    have hB3 : Below w.heap.size w (w2.alloc (.cells #[.string ⟨n.toArray⟩, .string ⟨v.toArray⟩] 55)) := below_new hB2 _
    clear R2 hob HB HR1 hne hb2
    go_wp2_with fail
    refine (HI.out).mono ?_
    rintro e w3 ⟨v3, rfl, hr3, hb3⟩
    have HR3 := Lib.hid hr3
    clear hr3
    go_wp2
    go_ret
    exact ⟨v3, rfl, by rw [hR.out]; exact HR3.out, hB3.trans hb3⟩
end Go.Proofs.YtmcmgmpgmbljiaaDoor
