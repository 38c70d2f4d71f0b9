/- belfryref9.Check. -/
import Derived.Test.YtgldieboflmnhaaGreatDoorRefO
import Derived.Test.YtgldieboflmnhaaGreatDoorOrd
namespace Go.Proofs.YtgldieboflmnhaaGreatDoor
open Go Go.Proofs Go.RowKit Go.Shelf
set_option maxRecDepth 100000
theorem labs_of_row9 {W : World} {base e : Nat} {v : Value} {zs : List SLab} (h : W.ownsRow base e 2 v zs.length (labC zs)) : Labs W.heap.size W v zs := by
  obtain ⟨_, ⟨rfl, h0⟩ | ⟨g, cap, cur, rfl, hb, hg, hnc, hcm, hcs, ht⟩⟩ := h
  · exact .inl ⟨⟨_, _, rfl⟩, List.eq_nil_of_length_eq_zero h0⟩
  · refine .inr ⟨g, 0, cap, rfl, (Array.getElem?_eq_some_iff.1 hg).1, fun j x hj => ?_⟩
    obtain ⟨c1, c2⟩ := labC_at zs j x hj
    have hjl : j < zs.length := (List.getElem?_eq_some_iff.1 hj).1
    rw [← ht, List.getElem?_take] at c1 c2
    rw [if_pos (by omega)] at c1 c2
    constructor
    · show (match W.heap[g]? with | some (.cells c _ _) => c[0 + j * 2]? | _ => none) = _
      rw [hg]; simpa using c1
    · show (match W.heap[g]? with | some (.cells c _ _) => c[0 + j * 2 + 1]? | _ => none) = _
      rw [hg]; simpa using c2
theorem last_at (zs : List SLab) (k : Nat) (y : SLab) (h : zs[k]? = some y) : lastN [] (zs.take (k + 1)) = y.1.1 := by
  obtain ⟨hn, he⟩ := List.getElem?_eq_some_iff.1 h
  rw [List.take_succ_eq_append_getElem hn, he, lastN_snoc]
theorem below_dN {B : Nat} {w v : World} (h : Below B w v) (q : Nat) : Below B w (v.drewN q) := ⟨h.os, h.tape, h.output, h.size, h.block⟩
set_option maxHeartbeats 4000000 in
theorem rcheck_any (a : Option Addr) (len cap : Nat) (zs : List SLab) (hlen : zs.length ≤ 100) (w : World) (hI : Labs w.heap.size w (.slice a len cap) zs) :
    Calls Tryz.prog 16 #[.slice a len cap] w fun e w' => e = .returned (.int .i64 (checkR zs)) ∧ Below w.heap.size w w' := by
  obtain rfl : len = zs.length := hI.len
  by_cases h16 : 16 < zs.length
  · have hR : Hid (checkR zs = 4) := by unfold Hid checkR; rw [if_pos h16]
    have hz : (16 : Int) < (zs.length : Int) := by omega
    go_enter Tryz.func16, Tryz.ntmps16
    go_wp2
    go_ret
    exact ⟨by rw [hR.out]; rfl, Below.refl _ _⟩
  have hR : Hid (checkR zs = chk [] zs) := by unfold Hid checkR; rw [if_neg h16]
  have hz : ¬ (16 : Int) < (zs.length : Int) := by omega
  have HI := Lib.hid hI
  clear hI
  go_enter Tryz.func16, Tryz.ntmps16
  go_wp2
  go_loopw [3] (fun i wr => ∃ k : Nat, k ≤ zs.length ∧ i = .int .i64 (k : Int) ∧ chk [] (zs.take k) = 0 ∧ Below w.heap.size w wr) (fun i _ => zs.length - (intOf i).toNat)
  case atStart => exact ⟨0, Nat.zero_le _, rfl, rfl, Below.refl _ _⟩
  case round =>
    obtain ⟨k, hk, rfl, hP, hBw⟩ := hrel
    by_cases hlt : k < zs.length
    · obtain ⟨x, hx⟩ : ∃ x, zs[k]? = some x := ⟨_, List.getElem?_eq_getElem hlt⟩
      obtain ⟨hn, he⟩ := List.getElem?_eq_some_iff.1 hx
      have hcc : chk [] (zs.take (k + 1)) = chk (lastN [] (zs.take k)) [x] := by rw [List.take_succ_eq_append_getElem hn, he, chk_app _ _ _ hP]
      rw [chk_cons] at hcc
      have hrest : ∀ c, chk [] (zs.take (k + 1)) = c → c ≠ 0 → chk [] zs = c := fun c h h0 => by
        conv => lhs; rw [← List.take_append_drop (k + 1) zs]
        rw [chk_pre _ _ _ (by rw [h]; exact h0), h]
      rcases HI.out.below hBw with ⟨_, rfl⟩ | ⟨b, off, c, e, hb, hc⟩
      · simp at hlt
      obtain ⟨rfl, rfl⟩ : a = some ⟨b, off, none⟩ ∧ cap = c := by simpa using e
      obtain ⟨c0, c1⟩ := hc k x hx
      obtain ⟨⟨xn, xv⟩, hx0⟩ := x
      dsimp only at hcc c0 c1
      have h0 : (0 : Int) ≤ (k : Int) := by omega
      have h1 : (k : Int) < (zs.length : Int) := by omega
      have NM := Lib.hid (fun W => rname_any xn (by have := hx0.1; dsimp only at this; omega) W)
      have VL := Lib.hid (fun W => rvalue_any xv (by have := hx0.2; dsimp only at this; omega) W)
      have CC := Lib.hid hcc
      have RST := Lib.hid hrest
      have HC := Lib.hid hc
      clear e hx he hcc hrest hP hc
      cases hnm : nameR xn
      · rw [hnm] at NM CC
        go_wp2_with fail
        refine (NM.out _).mono ?_
        rintro e w1 ⟨rfl, rfl⟩
        go_wp2
        go_ret
        exact ⟨by rw [hR.out, RST.out 5 (by rw [CC.out]; rfl) (by decide)]; rfl, hBw⟩
      · rw [hnm] at NM CC
        by_cases hk0 : k = 0
        · have d0 : decide ((0 : Int) < (k : Int)) = false := by rw [decide_eq_false_iff_not]; omega
          have d1 : decide (0 < k) = false := by rw [decide_eq_false_iff_not]; omega
          have hl : lastN [] (zs.take k) = [] := by rw [hk0]; rfl
          have hx1 : Op.bytesLess xn [] = false ∧ (xn == ([] : List UInt8)) = false := by
            cases xn with
            | nil => cases hnm
            | cons _ _ => exact ⟨rfl, rfl⟩
          have C2 : Hid (chk [] (zs.take (k + 1)) = if valueR xv = false then 1 else 0) := by unfold Hid; rw [CC.out, if_neg (by simp), hl, hx1.1, hx1.2]; rfl
          clear CC hl hx1 hk0
          go_wp2_with fail
          refine (NM.out _).mono ?_
          rintro e w1 ⟨rfl, rfl⟩
          go_wp2
          go_quiet (fail)
          have hB2 : Below w.heap.size w (wr.drewN nq) := below_dN hBw nq
          cases hvl : valueR xv
          · rw [hvl] at VL C2
            go_wp2_with fail
            refine (VL.out _).mono ?_
            rintro e w1 ⟨rfl, rfl⟩
            go_wp2
            go_ret
            exact ⟨by rw [hR.out, RST.out 1 (by rw [C2.out]; rfl) (by decide)]; rfl, hB2⟩
          · rw [hvl] at VL C2
            go_wp2_with fail
            refine (VL.out _).mono ?_
            rintro e w1 ⟨rfl, rfl⟩
            go_wp2
            go_roundw
            case rel => exact ⟨k + 1, by omega, by go_num, by rw [C2.out]; rfl, hB2⟩
            case measure => simp [intOf]; omega
        · have d0 : decide ((0 : Int) < (k : Int)) = true := by rw [decide_eq_true_eq]; omega
          have d1 : decide (0 < k) = true := by rw [decide_eq_true_eq]; omega
          obtain ⟨y, hy⟩ : ∃ y, zs[k - 1]? = some y := ⟨_, List.getElem?_eq_getElem (by omega)⟩
          have hl := last_at zs (k - 1) y hy
          rw [show k - 1 + 1 = k by omega] at hl
          obtain ⟨y0, _⟩ := HC.out (k - 1) y hy
          have q1 : (0 : Int) ≤ (k : Int) - 1 := by omega
          have q2 : (k : Int) - 1 < (zs.length : Int) := by omega
          have q3 : ((k : Int) - 1).toNat = k - 1 := by omega
          obtain ⟨⟨yn, yv⟩, hy1⟩ := y
          dsimp only at hl y0
          have C2 : Hid (chk [] (zs.take (k + 1)) = if (Op.bytesLess xn yn || xn == yn) = true then 6 else if valueR xv = false then 1 else 0) := by unfold Hid; rw [CC.out, if_neg (by simp), hl]; rfl
          clear CC hl hy hk0
          rw [bl_tot] at C2
          cases hbl : Op.bytesLess yn xn
          · rw [hbl] at C2
            go_wp2_with fail
            refine (NM.out _).mono ?_
            rintro e w1 ⟨rfl, rfl⟩
            go_wp2
            go_quiet (fail)
            have hB2 : Below w.heap.size w (wr.drewN nq) := below_dN hBw nq
            go_wp2
            go_ret
            exact ⟨by rw [hR.out, RST.out 6 (by rw [C2.out]; rfl) (by decide)]; rfl, hB2⟩
          · rw [hbl] at C2
            go_wp2_with fail
            refine (NM.out _).mono ?_
            rintro e w1 ⟨rfl, rfl⟩
            go_wp2
            go_quiet (fail)
            have hB2 : Below w.heap.size w (wr.drewN nq) := below_dN hBw nq
            cases hvl : valueR xv
            · rw [hvl] at VL C2
              go_wp2_with fail
              refine (VL.out _).mono ?_
              rintro e w1 ⟨rfl, rfl⟩
              go_wp2
              go_ret
              exact ⟨by rw [hR.out, RST.out 1 (by rw [C2.out]; rfl) (by decide)]; rfl, hB2⟩
            · rw [hvl] at VL C2
              go_wp2_with fail
              refine (VL.out _).mono ?_
              rintro e w1 ⟨rfl, rfl⟩
              go_wp2
              go_roundw
              case rel => exact ⟨k + 1, by omega, by go_num, by rw [C2.out]; rfl, hB2⟩
              case measure => simp [intOf]; omega
    · obtain rfl : k = zs.length := by omega
      rw [List.take_length] at hP
      have PP := Lib.hid hP
      clear hP
      go_wp2
      go_ret
      exact ⟨by rw [hR.out, PP.out]; rfl, hBw⟩
end Go.Proofs.YtgldieboflmnhaaGreatDoor
