/- fold over numbers of 64 bits; Sum. -/
import Derived.Test.YtmggiclikbacjaaDoorWalkG
import Derived.LoopTactic
namespace Go.Proofs.YtmggiclikbacjaaDoor
open Go Go.Proofs Go.RowKit
set_option maxRecDepth 100000

def sumL (l : List Int) : Int := l.foldl (· + ·) 0
theorem sumL_snoc (l : List Int) (c : Int) : sumL (l ++ [c]) = sumL l + c := by simp [sumL]
theorem sumL_take (l : List Int) (k : Nat) (h : k < l.length) : sumL (l.take (k + 1)) = sumL (l.take k) + l[k] := by
  rw [List.take_succ_eq_append_getElem h, sumL_snoc]
theorem sumL_bd (l : List Int) (hl : ∀ c ∈ l, I64 c) : -(9223372036854775808 * (l.length : Int)) ≤ sumL l ∧ sumL l ≤ 9223372036854775808 * (l.length : Int) := by
  have h : ∀ k, k ≤ l.length → -(9223372036854775808 * (k : Int)) ≤ sumL (l.take k) ∧ sumL (l.take k) ≤ 9223372036854775808 * (k : Int) := by
    intro k
    induction k with
    | zero => intro _; simp [sumL]
    | succ k ih =>
      intro hk
      have h1 := ih (by omega)
      have h2 := hl l[k] (List.getElem_mem (by omega))
      rw [sumL_take l k (by omega)]
      unfold I64 at h2
      omega
  have := h l.length (Nat.le_refl _)
  rwa [List.take_length] at this

structure FoldS (s : Nat) (l : List Int) (w : World) (k : Nat) (wr : World) (h0 l0 : Int) : Prop where
  inr : InI h0 l0
  eqv : val h0 l0 = sumL (l.take k)
  acc : At wr s [.int .i64 h0, .int .u64 l0]
  res : At wr (s + 1) [.int .i64 0, .int .u64 0]
  bel : Below w.heap.size w wr

set_option maxHeartbeats 2000000 in
theorem foldSum_any (B off n cap : Nat) (l : List Int) (hn : l.length = n) (hl : n ≤ 1000000) (hd : ∀ c ∈ l, I64 c) (w : World)
    (hB : B < w.heap.size) (hX : ∀ (k : Nat) (c : Int), l[k]? = some c → w.cell? ⟨B, off + k, none⟩ = some (.int .i64 c)) (rh rl : Int) (hr : InI rh rl) (hv : val rh rl = sumL l) :
    Calls Tryd.prog 51 #[.slice (some ⟨B, off, none⟩) n cap, .agg #[.int .i64 0, .int .u64 0], .func (.func 52) #[] #[]] w fun e w' =>
      e = .returned (.agg #[.int .i64 rh, .int .u64 rl]) ∧ Below w.heap.size w w' := by
  have X := Lib.hid hX
  have D := Lib.hid hd
  have Z := Lib.hid (And.intro hr hv)
  have N := Lib.hid hn
  clear hX hd hr hv hn
  go_enter Tryd.func51, Tryd.ntmps51
  go_wp2_with fail
  go_loopw [11] (fun i wr => ∃ (k : Nat) (h0 l0 : Int), k ≤ n ∧ i = .int .i64 k ∧ FoldS w.heap.size l w k wr h0 l0) (fun i _ => n - (intOf i).toNat)
  case atStart =>
    refine ⟨0, 0, 0, Nat.zero_le _, rfl, ⟨⟨by omega, by omega, by omega, by omega⟩, by simp [val, sumL], ?_, ?_, by go_grown⟩⟩
    · exact (At.new w #[.int .i64 0, .int .u64 0] 24).alloc _
    · have h := At.new (w.alloc (.cells #[.int .i64 0, .int .u64 0] 24)) #[.int .i64 0, .int .u64 0] 24
      simpa using h
  case round =>
    obtain ⟨k, h0, l0, hk, rfl, F⟩ := hrel
    have HF := Lib.hid F
    clear F
    by_cases hlt : k < n
    · have hkl : k < l.length := by rw [N.out]; exact hlt
      have hcr : wr.cell? ⟨B, off + k, none⟩ = some (.int .i64 l[k]) := (HF.out.bel.cell (p := ⟨B, off + k, none⟩) hB).trans (X.out k l[k] (by simp [hkl]))
      obtain ⟨h1, l1, HP⟩ : ∃ h1 l1, Hid (InI h1 l1 ∧ val h1 l1 = sumL (l.take (k + 1))) := by
        have hb := sumL_bd (l.take (k + 1)) (fun c hc => D.out c (List.mem_of_mem_take hc))
        rw [List.length_take] at hb
        obtain ⟨a, b, c, d⟩ := fits_ex (v := sumL (l.take (k + 1))) (by unfold Fits; omega)
        exact ⟨a, b, c, d⟩
      have P := Lib.hid (fun (W : World) => plus_any h0 l0 l[k] h1 l1 HF.out.inr (D.out _ (List.getElem_mem hkl)) HP.out.1 (by rw [HP.out.2, HF.out.eqv, sumL_take l k hkl]) W)
      generalize l[k] = c at *
      have c0 := HF.out.acc.cell 0 _ rfl
      have c1 := HF.out.acc.cell 1 _ rfl
      go_wp2_with fail
      refine (P.out _).mono ?_
      rintro e w1 ⟨rfl, hb⟩
      have hA := HF.out.acc.below hb
      have hR := HF.out.res.below hb
      have hBel : Below w.heap.size w w1 := HF.out.bel.trans (hb.mono HF.out.bel.size)
      clear hb c0 c1 hcr
      have c0 := hA.cell 0 _ rfl
      have c1 := hA.cell 1 _ rfl
      have f0 := hA.free 0 _ rfl
      have f1 := hA.free 1 _ rfl
      go_wp2_with fail
      go_roundw
      case rel =>
        refine ⟨k + 1, h1, l1, by omega, by go_num, ⟨HP.out.1, HP.out.2, (hA.set 0 _).set 1 _, (hR.far (by omega) _).far (by omega) _, ?_⟩⟩
        exact (hBel.setCell (by simp) _).setCell (by simp) _
      case measure => simp [intOf]; omega
    · have HE : Hid (h0 = rh ∧ l0 = rl) := by
        have h := HF.out.eqv
        rw [List.take_of_length_le (by rw [N.out]; omega), ← Z.out.2] at h
        exact val_inj HF.out.inr Z.out.1 h
      have c0 := HF.out.acc.cell 0 _ rfl
      have c1 := HF.out.acc.cell 1 _ rfl
      have r0 := HF.out.res.cell 0 _ rfl
      have r1 := HF.out.res.cell 1 _ rfl
      have f0 := HF.out.res.free 0 _ rfl
      have f1 := HF.out.res.free 1 _ rfl
      go_wp2
      have s0 := same0 r0
      have s1 := same1 r1
      refine bodyPost_ret (v := .agg #[.int .i64 h0, .int .u64 l0]) (by simp [results, Tryd.results51, go_sem, s0, s1]) rfl ⟨?_, ?_⟩
      · rw [HE.out.1, HE.out.2]
      · exact (HF.out.bel.setCell (by simp) _).setCell (by simp) _

/-- Sum of numbers that lie in a row. -/
theorem Sum_any (B off n cap : Nat) (l : List Int) (hn : l.length = n) (hl : n ≤ 1000000) (hd : ∀ c ∈ l, I64 c) (w : World)
    (hB : B < w.heap.size) (hX : ∀ (k : Nat) (c : Int), l[k]? = some c → w.cell? ⟨B, off + k, none⟩ = some (.int .i64 c)) (rh rl : Int) (hr : InI rh rl) (hv : val rh rl = sumL l) :
    Calls Tryd.prog 27 #[.slice (some ⟨B, off, none⟩) n cap] w fun e w' => e = .returned (.agg #[.int .i64 rh, .int .u64 rl]) ∧ Below w.heap.size w w' := by
  have F := Lib.hid (fun W hB hX => foldSum_any B off n cap l hn hl hd W hB hX rh rl hr hv)
  have HX := Lib.hid hX
  clear hX hd hr hv hn
  go_enter Tryd.func27, Tryd.ntmps27
  go_wp2_with fail
  refine (F.out _ (by simp; omega) (fun k c h => by rw [World.cell?_alloc_lt _ _ _ hB]; exact HX.out k c h)).mono ?_
  rintro e w1 ⟨rfl, hb⟩
  have hR := (At.new w #[.int .i64 0, .int .u64 0] 24).below hb
  have hB1 : Below w.heap.size w w1 := Below.trans (by go_grown) (hb.mono (by simp))
  clear hb
  have r0 := hR.cell 0 _ rfl
  have r1 := hR.cell 1 _ rfl
  have f0 := hR.free 0 _ rfl
  have f1 := hR.free 1 _ rfl
  go_wp2
  have s0 := same0 r0
  have s1 := same1 r1
  refine bodyPost_ret (v := .agg #[.int .i64 rh, .int .u64 rl]) (by simp [results, Tryd.results27, go_sem, s0, s1]) rfl ⟨rfl, by go_grown⟩

/-- Sum of none. -/
theorem Sum_none (w : World) :
    Calls Tryd.prog 27 #[.slice none 0 0] w fun e w' => e = .returned (.agg #[.int .i64 0, .int .u64 0]) ∧ Below w.heap.size w w' := by
  go_enter Tryd.func27, Tryd.ntmps27
  go_wp2
  refine wp_loop_rounds 1 ?_
  rw [rounds_succ]
  go_wp2
  go_returns
  exact ⟨rfl, by go_grown⟩
end Go.Proofs.YtmggiclikbacjaaDoor
