/- The document's Sources: Live. -/
import Derived.Test.YtoodcaonlfeleaaDoorSg
import Derived.Test.YtoodcaonlfeleaaDoorTy
namespace Go.Proofs.YtoodcaonlfeleaaDoor
open Go Go.Proofs Go.RowKit Go.Shelf
set_option maxRecDepth 100000
attribute [local go_sem] Oper.semAt_some
def liveS (S : Sr) : Nat → List Nat
  | 0 => []
  | m + 1 => liveS S m ++ (match S.rest[m]? with | some r => if live4 S r then [m] else [] | none => [])
theorem liveS_succ (S : Sr) {m : Nat} {r : R4} (h : S.rest[m]? = some r) : liveS S (m + 1) = liveS S m ++ (if live4 S r then [m] else []) := by
  show liveS S m ++ (match S.rest[m]? with | some r => if live4 S r then [m] else [] | none => []) = _
  rw [h]
theorem liveS_len (S : Sr) : ∀ m, (liveS S m).length ≤ m := by
  intro m
  induction m with
  | zero => simp [liveS]
  | succ m ih =>
    show (liveS S m ++ (match S.rest[m]? with | some r => if live4 S r then [m] else [] | none => [])).length ≤ _
    rw [List.length_append]
    cases S.rest[m]? with
    | none => simp; omega
    | some r => dsimp only; split <;> simp <;> omega
/-- what lies ahead of a round -/
structure RlS (S : Sr) (w wr : World) (v : Value) (l : List Nat) : Prop where
  T : SAt wr w.heap.size S
  O : wr.ownsRow (w.heap.size + 1) 3 1 v l.length (ivC l)
  B : Below w.heap.size w wr
theorem RlS.drew {S : Sr} {w wr : World} {v : Value} {l : List Nat} (h : RlS S w wr v l) : RlS S w wr.drew v l := ⟨VAt.drew h.T, h.O.drew, h.B.drew⟩
set_option maxHeartbeats 8000000 in
theorem rlive_wd (S : Sr) (hS : SrOk S) (w : World) :
    CallsIn Fence.wide 9 Tryd.prog 17 #[.agg (srC S).toArray] w (LivePost (liveS S 16) w) := by
  obtain ⟨i0, hi, hz0, hz1, hz2⟩ := info_parts info_int
  have HI := Lib.hid hi
  have HZ := Lib.hid hz0
  have HZ1 := Lib.hid hz1
  have HZ2 := Lib.hid hz2
  clear hi hz0 hz1 hz2
  have hA0 := Lib.hid (vat_new w 32 (srC S))
  refine callsIn_of_wp Tryd.func17 rfl trivial ?_ rfl
  simp only [Tryd.ntmps17, List.size_toArray, List.length_cons, List.length_nil, Nat.reduceAdd, Nat.reduceSub, Array.replicate_succ, Array.replicate_zero, List.push_toArray, List.append_toArray, List.nil_append, List.cons_append]
  gi_wp2
  gi_loopw [3, 4] (fun v i wr => ∃ m : Nat, m ≤ 16 ∧ i = .int .i64 ((m : Int) + 1) ∧ RlS S w wr v (liveS S m)) (fun _ i _ => 17 - (intOf i).toNat)
  case atStart => exact ⟨0, by omega, rfl, hA0.out, by simpa [ivC, liveS] using World.ownsRow_nil _ (w.heap.size + 1) 3 1, below_cells _⟩
  case round =>
    obtain ⟨m, hm, rfl, hR⟩ := hrel
    have hll := liveS_len S m
    by_cases hlt : m < 16
    · obtain ⟨r, hr⟩ : ∃ r, S.rest[m]? = some r := ⟨_, List.getElem?_eq_getElem (by rw [hS.len]; exact hlt)⟩
      have HS := Lib.hid (liveS_succ S hr)
      replace hR := hR.drew
      obtain ⟨-, -, c2, c3⟩ := sr_cells hR.T hr
      have d1 := SAt.c1 hR.T
      have hw1 : wrap64 ((m : Int) + 1 + 1) = (m : Int) + 1 + 1 := by rw [wr64] <;> omega
      have k2 : (0 : Int) ≤ (m : Int) + 1 := by omega
      have k3 : (m : Int) + 1 < 17 := by omega
      have k4 : ((m : Int) + 1).toNat = m + 1 := by omega
      have HR := Lib.hid hR
      clear hR hr hA0
      by_cases hp : r.p = true
      · rw [hp] at c2
        by_cases ha : r.a < S.idle
        · have hlv : Hid (live4 S r = true) := by unfold Hid live4; rw [hp]; simpa using ha
          have da : decide (r.a < S.idle) = true := by simpa using ha
          gi_wp2_with fail
          refine region_anyM (S := fun u => u.cell? ⟨w.heap.size, 2 + (m + 1) * 4 + 2, none⟩ = some (.bool true) ∧ u.cell? ⟨w.heap.size, 2 + (m + 1) * 4 + 3, none⟩ = some (.int .i64 r.a) ∧ u.cell? ⟨w.heap.size, 1, none⟩ = some (.int .i64 S.idle)) 14 (by kernel_rfl) (fun hS => ?_) ⟨c2, c3, d1⟩
          generalize wr.drew = wd at *
          refine anyM_d 0 [0, 2, 3, 4, 5, 14] hS ?_
          refine anyM_d 1 [1, 2, 3, 4, 5, 14] hS ?_
          refine anyM_d 2 [2, 3, 4, 5, 14] (v := .pointer (some ⟨w.heap.size, 2 + (m + 1) * 4, none⟩)) hS ?_
          refine anyM_d 3 [3, 4, 5, 14] hS ?_
          refine anyM_c 4 [4, 5, 14] hS (fun u h => h.1) ?_
          refine anyM_d 5 [5, 14] hS ?_
          refine anyM_d 6 [6, 8, 9, 10, 13, 14] hS ?_
          refine anyM_d 7 [7, 8, 9, 10, 13, 14] hS ?_
          refine anyM_d 8 [8, 9, 10, 13, 14] (v := .pointer (some ⟨w.heap.size, 2 + (m + 1) * 4, none⟩)) hS ?_
          refine anyM_d 9 [9, 10, 13, 14] hS ?_
          refine anyM_c 10 [10, 13, 14] hS (fun u h => h.2.1) ?_
          refine anyM_d 11 [11, 12, 13, 14] hS ?_
          refine anyM_c 12 [12, 13, 14] hS (fun u h => h.2.2) ?_
          refine anyM_d 13 [13, 14] (v := .bool true) hS ?_
          refine anyM_l (fun K hK => ?_)
          go_simp
          refine hK _ _ ?_
          clear hK K
          refine anyIn_done (by kernel_rfl) ?_ _
          clear hS
          gi_wp2_with (gi_at_builtin; refine wpListIn_append_own _ rfl _ _ 50 rfl (w.heap.size + 1) 3 i0 (.int .i64 0) 1 8 Tryd.underlying50 HI.out HZ.out HZ1.out HZ2.out rfl (by decide) _ _ _ rfl (HR.out.O.alloc _) ⟨wd.heap.size, 0, none⟩ 1 1 [.int .i64 ((m : Int) + 1)] rfl rfl (cell_one_new _ _ _) ?k1 ?k2 ?k3 ?k4 ?_)
          case k1 => intro u hu; simp at hu; rcases hu with rfl; rfl
          case k2 => unfold maxLen; omega
          case k3 => omega
          case k4 => have := VAt.lt HR.out.T; simp; omega
          intro v' w1' hown' hgrow _
          have hT1 : SAt w1' w.heap.size S := VAt.grown (VAt.alloc HR.out.T _) hgrow (fun e => by have := (World.ownsRow.lt HR.out.O _ e).1; omega)
          have hB1 : Below w.heap.size w w1' := (below_new HR.out.B _).grown hgrow (by have := HR.out.B.size; simp; omega) (fun k e => by have := (World.ownsRow.lt HR.out.O k e).1; omega)
          have HO := Lib.hid hown'
          have HT1 := Lib.hid hT1
          have HB1 := Lib.hid hB1
          clear hown' hgrow hT1 hB1 c2 c3 d1 da
          gi_wp2
          go_roundw
          case rel =>
            refine ⟨m + 1, by omega, by go_num, HT1.out, ?_, HB1.out⟩
            rw [HS.out, hlv.out]
            simp only [if_true]
            rw [List.length_append, ivC_snoc]
            exact HO.out
          case measure => simp [intOf]; omega
        · have hlv : Hid (live4 S r = false) := by unfold Hid live4; rw [hp]; simpa using ha
          have da : decide (r.a < S.idle) = false := by simpa using ha
          gi_wp2_with fail
          refine region_anyM (S := fun u => u.cell? ⟨w.heap.size, 2 + (m + 1) * 4 + 2, none⟩ = some (.bool true) ∧ u.cell? ⟨w.heap.size, 2 + (m + 1) * 4 + 3, none⟩ = some (.int .i64 r.a) ∧ u.cell? ⟨w.heap.size, 1, none⟩ = some (.int .i64 S.idle)) 14 (by kernel_rfl) (fun hS => ?_) ⟨c2, c3, d1⟩
          generalize wr.drew = wd at *
          refine anyM_d 0 [0, 2, 3, 4, 5, 14] hS ?_
          refine anyM_d 1 [1, 2, 3, 4, 5, 14] hS ?_
          refine anyM_d 2 [2, 3, 4, 5, 14] (v := .pointer (some ⟨w.heap.size, 2 + (m + 1) * 4, none⟩)) hS ?_
          refine anyM_d 3 [3, 4, 5, 14] hS ?_
          refine anyM_c 4 [4, 5, 14] hS (fun u h => h.1) ?_
          refine anyM_d 5 [5, 14] hS ?_
          refine anyM_d 6 [6, 8, 9, 10, 13, 14] hS ?_
          refine anyM_d 7 [7, 8, 9, 10, 13, 14] hS ?_
          refine anyM_d 8 [8, 9, 10, 13, 14] (v := .pointer (some ⟨w.heap.size, 2 + (m + 1) * 4, none⟩)) hS ?_
          refine anyM_d 9 [9, 10, 13, 14] hS ?_
          refine anyM_c 10 [10, 13, 14] hS (fun u h => h.2.1) ?_
          refine anyM_d 11 [11, 12, 13, 14] hS ?_
          refine anyM_c 12 [12, 13, 14] hS (fun u h => h.2.2) ?_
          refine anyM_d 13 [13, 14] (v := .bool false) hS ?_
          refine anyM_l (fun K hK => ?_)
          go_simp
          refine hK _ _ ?_
          clear hK K
          refine anyIn_done (by kernel_rfl) ?_ _
          clear hS
          clear c2 c3 d1 da
          gi_wp2
          go_roundw
          case rel =>
            refine ⟨m + 1, by omega, by go_num, ?_⟩
            rw [HS.out, hlv.out]
            simpa using HR.out
          case measure => simp [intOf]; omega
      · have hp' : r.p = false := by simpa using hp
        have hlv : Hid (live4 S r = false) := by unfold Hid live4; rw [hp']; rfl
        rw [hp'] at c2
        gi_wp2_with fail
        refine region_anyM (S := fun u => u.cell? ⟨w.heap.size, 2 + (m + 1) * 4 + 2, none⟩ = some (.bool false) ∧ u.cell? ⟨w.heap.size, 2 + (m + 1) * 4 + 3, none⟩ = some (.int .i64 r.a) ∧ u.cell? ⟨w.heap.size, 1, none⟩ = some (.int .i64 S.idle)) 14 (by kernel_rfl) (fun hS => ?_) ⟨c2, c3, d1⟩
        generalize wr.drew = wd at *
        refine anyM_d 0 [0, 2, 3, 4, 5, 14] hS ?_
        refine anyM_d 1 [1, 2, 3, 4, 5, 14] hS ?_
        refine anyM_d 2 [2, 3, 4, 5, 14] (v := .pointer (some ⟨w.heap.size, 2 + (m + 1) * 4, none⟩)) hS ?_
        refine anyM_d 3 [3, 4, 5, 14] hS ?_
        refine anyM_c 4 [4, 5, 14] hS (fun u h => h.1) ?_
        refine anyM_d 5 [5, 14] hS ?_
        refine anyM_d 6 [6, 8, 9, 10, 13, 14] (v := undef) hS ?_ (hy := Or.inr ⟨by rfl, rfl⟩)
        refine anyM_d 7 [7, 8, 9, 10, 13, 14] (v := undef) hS ?_ (hy := Or.inr ⟨by rfl, rfl⟩)
        refine anyM_d 8 [8, 9, 10, 13, 14] (v := undef) hS ?_ (hy := Or.inr ⟨by rfl, rfl⟩)
        refine anyM_d 9 [9, 10, 13, 14] (v := undef) hS ?_ (hy := Or.inr ⟨by rfl, rfl⟩)
        refine anyM_d 10 [10, 13, 14] (v := undef) hS ?_ (hy := Or.inr ⟨by rfl, rfl⟩)
        refine anyM_d 11 [11, 12, 13, 14] (v := undef) hS ?_ (hy := Or.inr ⟨by rfl, rfl⟩)
        refine anyM_d 12 [12, 13, 14] (v := undef) hS ?_ (hy := Or.inr ⟨by rfl, rfl⟩)
        refine anyM_d 13 [13, 14] (v := undef) hS ?_ (hy := Or.inr ⟨by rfl, rfl⟩)
        refine anyM_l (fun K hK => ?_)
        go_simp
        refine hK _ _ ?_
        clear hK K
        refine anyIn_done (by kernel_rfl) ?_ _
        clear hS
        clear c2 c3 d1
        gi_wp2
        go_roundw
        case rel =>
          refine ⟨m + 1, by omega, by go_num, ?_⟩
          rw [HS.out, hlv.out]
          simpa using HR.out
        case measure => simp [intOf]; omega
    · obtain rfl : m = 16 := by omega
      have HO := Lib.hid (row_base _ w.heap.size hR.O (Nat.le_succ _))
      have HB := Lib.hid hR.B
      rcases hR.O.2 with ⟨e, h0⟩ | ⟨g, cap, cur, e, _⟩
      · subst e
        have H0 := Lib.hid h0
        clear h0 hR hll
        gi_wp2
        go_ret
        refine ⟨none, 0, by rw [H0.out]; rfl, ?_, HB.out⟩
        have := HO.out
        rw [H0.out] at this ⊢
        exact this
      · subst e
        clear hR hll
        gi_wp2
        go_ret
        exact ⟨_, _, rfl, HO.out, HB.out⟩
theorem rlive_any (S : Sr) (hS : SrOk S) (w : World) : Calls Tryd.prog 17 #[.agg (srC S).toArray] w (LivePost (liveS S 16) w) := (callsIn_wide (n := 9)).1 (rlive_wd S hS w)
end Go.Proofs.YtoodcaonlfeleaaDoor
