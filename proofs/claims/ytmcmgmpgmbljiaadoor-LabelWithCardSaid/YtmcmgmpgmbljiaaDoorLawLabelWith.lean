/- belfrylaw3.LabelWith. -/
import Derived.Test.YtmcmgmpgmbljiaaDoorLawLabelSplit
import Derived.Test.YtmcmgmpgmbljiaaDoorWithM
import Derived.Deep.RegionHeld3
namespace Go.Proofs.YtmcmgmpgmbljiaaDoor
open Go Go.Proofs Go.RowKit Go.Shelf
set_option maxRecDepth 100000
/-- Check of what Of hands back -/
theorem ofcheck (ss : List SLab) (hl : ss.length ≤ 100) (h : checkR ss = 0) (a : Option Addr) (len cap : Nat) (w : World) (hI : Labs w.heap.size w (.slice a len cap) ss) :
    Calls Tryd.prog 10 #[.slice a len cap] w fun e w' => e = .returned (.int .i64 0) ∧ Below w.heap.size w w' := by
  have := rcheck_any a len cap ss hl w hI
  rw [h] at this
  exact this
set_option maxHeartbeats 8000000 in
theorem with_good (a : Option Addr) (len cap : Nat) (ss : List SLab) (n v : List UInt8) (hs : Short (n, v)) (hf : fewR (ss.map (·.1)) = true) (hc : checkR ss = 0) (hl : ss.length < 16) (hn : nameR n = true) (hv : valueR v = true) (w : World)
    (hI : Labs w.heap.size w (.slice a len cap) ss) :
    Calls Tryd.prog 5 #[.slice a len cap, .string ⟨n.toArray⟩, .string ⟨v.toArray⟩] w fun e w' => e = .returned (.bool true) ∧ Below w.heap.size w w' := by
  obtain rfl : len = ss.length := hI.len
  obtain ⟨p, xa, F⟩ := with_facts ss hc hl n v hs hn hv
  have hsn := hs.1
  have hsv := hs.2
  dsimp only at hsn hsv
  have K := Lib.hid (known_any w)
  have LT := Lib.hid (fun (w1 : World) (hb : Below w.heap.size w w1) => labs_later hI hb)
  have GD := Lib.hid (fun (w1 : World) (hb : Below w.heap.size w w1) => good_any a ss.length cap ss (by omega) hf w1 (LT.out w1 hb))
  rw [show (checkR ss == 0) = true from by rw [beq_iff_eq]; exact hc] at GD
  have NM := Lib.hid (fun W => rname_any n (by omega) W)
  have VL := Lib.hid (fun W => rvalue_any v (by omega) W)
  rw [hn] at NM
  rw [hv] at VL
  have WA := Lib.hid (fun (w1 : World) (hb : Below w.heap.size w w1) => with_any a ss.length cap ss (by omega) n v hs p F.p1 F.p2 w1 (LT.out w1 hb))
  rw [F.p3] at WA
  have GS := Lib.hid (fun (w1 : World) (hb : Below w.heap.size w w1) => get_any a ss.length cap ss (by omega) n w1 (LT.out w1 hb))
  have hxl : xa.length ≤ 100 := by have := F.len; have := List.length_filter_le (keepB [n] false) ss; unfold othersR at *; omega
  have hol : (othersR ss n).length ≤ 100 := by have := F.len; omega
  have WB := Lib.hid (fun (w1 : World) a1 c1 (h : Labs w1.heap.size w1 (.slice a1 xa.length c1) xa) => with_any a1 xa.length c1 xa hxl n [] (by unfold Short; exact ⟨hsn, by simp⟩) p (by rw [F.oth]; exact F.p1) (by rw [F.oth]; exact F.p2) w1 h)
  have eB : withR xa n [] (by unfold Short; exact ⟨hsn, by simp⟩) p = othersR ss n := by unfold withR; rw [if_pos rfl, F.oth]
  rw [eB] at WB
  have WC := Lib.hid (fun (w1 : World) a1 c1 (h : Labs w1.heap.size w1 (.slice a1 xa.length c1) xa) => with_any a1 xa.length c1 xa hxl n v hs p (by rw [F.oth]; exact F.p1) (by rw [F.oth]; exact F.p2) w1 h)
  rw [F.again] at WC
  have GA := Lib.hid (fun (w1 : World) a1 c1 (h : Labs w1.heap.size w1 (.slice a1 xa.length c1) xa) => get_any a1 xa.length c1 xa hxl n w1 h)
  rw [F.getA] at GA
  obtain ⟨xb, hxb⟩ : ∃ xb, othersR ss n = xb := ⟨_, rfl⟩
  have FB := F.getB
  have FC := F.chkB
  have FA := F.all
  rw [hxb] at WB hol FB FC FA
  have GB := Lib.hid (fun (w1 : World) a1 c1 (h : Labs w1.heap.size w1 (.slice a1 xb.length c1) xb) => get_any a1 xb.length c1 xb hol n w1 h)
  rw [FB] at GB
  have OA := Lib.hid (fun (w1 : World) a1 c1 (h : Labs w1.heap.size w1 (.slice a1 xa.length c1) xa) => of_any a1 xa.length c1 xa hxl w1 h)
  have OB := Lib.hid (fun (w1 : World) a1 c1 (h : Labs w1.heap.size w1 (.slice a1 xb.length c1) xb) => of_any a1 xb.length c1 xb hol w1 h)
  have CA0 := Lib.hid (fun (w1 : World) a1 l1 c1 (h : Labs w1.heap.size w1 (.slice a1 l1 c1) xa) => ofcheck xa hxl F.chkA a1 l1 c1 w1 h)
  have CB0 := Lib.hid (fun (w1 : World) a1 l1 c1 (h : Labs w1.heap.size w1 (.slice a1 l1 c1) xb) => ofcheck xb hol FC a1 l1 c1 w1 h)
  have ALL := Lib.hid FA
  have fin := F.fin
  have hl16 : ¬ (16 : Int) ≤ (ss.length : Int) := by omega
  generalize getR n ss = gs at *
  have FIN := Lib.hid fin
  clear F hI hf hc hxb FB FC FA eB fin hn hv
  go_enter Tryd.func5, Tryd.ntmps5
  go_wp2_with fail
  refine (K.out).mono ?_
  rintro e w1 ⟨rfl, B⟩
  go_wp2_with fail
  refine (GD.out _ B).mono ?_
  rintro e w2 ⟨rfl, hb⟩
  have B := below_then B hb
  clear hb
  go_wp2_with fail
  refine (NM.out _).mono ?_
  rintro e w3 ⟨rfl, rfl⟩
  go_wp2_with fail
  refine (VL.out _).mono ?_
  rintro e w3 ⟨rfl, rfl⟩
  go_wp2_with fail
  refine (WA.out _ B).mono ?_
  rintro e w4 ⟨va, rfl, hr, hb⟩
  have LA := labs_of_row hr
  have B := below_then B hb
  clear hr hb
  obtain ⟨aa, ca, rfl⟩ := slice_of LA
  go_wp2_with fail
  refine (WB.out _ _ _ LA).mono ?_
  rintro e w5 ⟨vb, rfl, hr, hb⟩
  have LB := labs_of_row hr
  have LA := labs_later LA hb
  have B := below_then B hb
  clear hr hb
  obtain ⟨ab, cb, rfl⟩ := slice_of LB
  go_wp2_with fail
  refine (GA.out _ _ _ LA).mono ?_
  rintro e w6 ⟨rfl, hb⟩
  have LA := labs_later LA hb
  have LB := labs_later LB hb
  have B := below_then B hb
  clear hb
  go_wp2_with fail
  refine (GB.out _ _ _ LB).mono ?_
  rintro e w7 ⟨rfl, hb⟩
  have LA := labs_later LA hb
  have LB := labs_later LB hb
  have B := below_then B hb
  clear hb
  go_wp2_with fail
  refine (OA.out _ _ _ LA).mono ?_
  rintro e w8 ⟨vo, rfl, hr, hb⟩
  have LO := labs_of_row9 hr
  have LA := labs_later LA hb
  have LB := labs_later LB hb
  have B := below_then B hb
  clear hr hb
  obtain ⟨ao, co, rfl⟩ := slice_of LO
  go_wp2_with fail
  refine (CA0.out _ _ _ _ LO).mono ?_
  rintro e w9 ⟨rfl, hb⟩
  have LA := labs_later LA hb
  have LB := labs_later LB hb
  have B := below_then B hb
  clear hb LO
  go_wp2_with fail
  refine (OB.out _ _ _ LB).mono ?_
  rintro e w10 ⟨vo, rfl, hr, hb⟩
  have LO := labs_of_row9 hr
  have LA := labs_later LA hb
  have LB := labs_later LB hb
  have B := below_then B hb
  clear hr hb
  obtain ⟨ap, cp, rfl⟩ := slice_of LO
  go_wp2_with fail
  refine (CB0.out _ _ _ _ LO).mono ?_
  rintro e w11 ⟨rfl, hb⟩
  have LA := labs_later LA hb
  have LB := labs_later LB hb
  have B := below_then B hb
  clear hb LO
  clear GD NM VL WA WB GA GB OA OB CA0 CB0 K
  go_wp2
  go_loopw [9] (fun i wr => ∃ k : Nat, k ≤ ss.length ∧ i = .int .i64 (k : Int) ∧ Below w11.heap.size w11 wr) (fun i _ => ss.length - (intOf i).toNat)
  case atStart => exact ⟨0, Nat.zero_le _, rfl, Below.refl _ _⟩
  case round =>
    obtain ⟨k, hk, rfl, hB⟩ := hrel
    have LA := labs_later LA hB
    have LB := labs_later LB hB
    have B := below_then B hB
    by_cases hlt : k < ss.length
    · obtain ⟨y, hy⟩ : ∃ y, ss[k]? = some y := ⟨_, List.getElem?_eq_getElem hlt⟩
      have hys : y ∈ ss := List.mem_of_getElem? hy
      rcases LT.out _ B with ⟨_, hb0⟩ | ⟨b, off, c, e, hbw, hcs⟩
      · rw [hb0] at hlt; simp at hlt
      obtain ⟨rfl, rfl⟩ : a = some ⟨b, off, none⟩ ∧ cap = c := by simpa using e
      obtain ⟨c0, c1⟩ := hcs k y hy
      have hall := ALL.out y hys
      obtain ⟨⟨yn, yv⟩, hy0⟩ := y
      dsimp only at c0 c1 hall
      have h0 : (0 : Int) ≤ (k : Int) := by omega
      have h1 : (k : Int) < (ss.length : Int) := by omega
      clear e hcs hy hys
      by_cases hyn : yn = n
      · subst hyn
        have e1 : (yn == yn) = true := beq_self_eq_true _
        clear hall
        go_wp2
        refine wp_region_held_drew (S := fun u => u.cell? ⟨b, off + k * 2, none⟩ = some (.string ⟨yn.toArray⟩) ∧ u.cell? ⟨b, off + k * 2 + 1, none⟩ = some (.string ⟨yv.toArray⟩) ∧ Below wr.heap.size wr u) (by kernel_rfl) ?_ (fun hS => ?_)
        · exact ⟨c0, c1, (Below.refl _ _).drew⟩
        refine' wpAnyH_take (i := 0) (oi := ?oiT0a) (v := ?vT0a) ?hiT0a (by kernel_rfl) (by kernel_rfl) (by kernel_rfl) ?hQT0a ?hyT0a hS ?restT0a
        case hiT0a =>
          simp only [List.getElem?_toArray, List.getElem?_cons_zero]
          exact rfl
        case hQT0a => exact fun _ _ _ h => h
        case hyT0a =>
          refine Or.inl ⟨by rfl, ?_⟩
          intro w hSw
          (try dsimp only at hSw)
          obtain ⟨s0, s1, _⟩ := hSw
          go_simp
          (try with_reducible rfl)
        (try simp only [Act.put, List.setIfInBounds_toArray, List.set_cons_zero, List.set_cons_succ])
        refine' wpAnyH_take (i := 1) (oi := ?oiT1a) (v := ?vT1a) ?hiT1a (by kernel_rfl) (by kernel_rfl) (by kernel_rfl) ?hQT1a ?hyT1a hS ?restT1a
        case hiT1a =>
          simp only [List.getElem?_toArray, List.getElem?_cons_succ, List.getElem?_cons_zero]
          exact rfl
        case hQT1a => exact fun _ _ _ h => h
        case hyT1a =>
          refine Or.inl ⟨by rfl, ?_⟩
          intro w hSw
          (try dsimp only at hSw)
          obtain ⟨s0, s1, _⟩ := hSw
          go_simp
          (try with_reducible rfl)
        (try simp only [Act.put, List.setIfInBounds_toArray, List.set_cons_zero, List.set_cons_succ])
        refine' wpAnyH_take (i := 2) (oi := ?oiT2a) (v := ?vT2a) ?hiT2a (by kernel_rfl) (by kernel_rfl) (by kernel_rfl) ?hQT2a ?hyT2a hS ?restT2a
        case hiT2a =>
          simp only [List.getElem?_toArray, List.getElem?_cons_succ, List.getElem?_cons_zero]
          exact rfl
        case hQT2a => exact fun _ _ _ h => h
        case hyT2a =>
          refine Or.inl ⟨by rfl, ?_⟩
          intro w hSw
          (try dsimp only at hSw)
          obtain ⟨s0, s1, _⟩ := hSw
          go_simp
          (try with_reducible rfl)
        (try simp only [Act.put, List.setIfInBounds_toArray, List.set_cons_zero, List.set_cons_succ])
        refine' wpAnyH_take (i := 3) (oi := ?oiT3a) (v := ?vT3a) ?hiT3a (by kernel_rfl) (by kernel_rfl) (by kernel_rfl) ?hQT3a ?hyT3a hS ?restT3a
        case hiT3a =>
          simp only [List.getElem?_toArray, List.getElem?_cons_succ, List.getElem?_cons_zero]
          exact rfl
        case hQT3a => exact fun _ _ _ h => h
        case hyT3a =>
          refine Or.inl ⟨by rfl, ?_⟩
          intro w hSw
          (try dsimp only at hSw)
          obtain ⟨s0, s1, _⟩ := hSw
          go_simp
          (try with_reducible rfl)
        (try simp only [Act.put, List.setIfInBounds_toArray, List.set_cons_zero, List.set_cons_succ])
        refine' wpAnyH_take (i := 4) (oi := ?oiT4a) (v := ?vT4a) ?hiT4a (by kernel_rfl) (by kernel_rfl) (by kernel_rfl) ?hQT4a ?hyT4a hS ?restT4a
        case hiT4a =>
          simp only [List.getElem?_toArray, List.getElem?_cons_succ, List.getElem?_cons_zero]
          exact rfl
        case hQT4a => exact fun _ _ _ h => h
        case hyT4a =>
          refine Or.inl ⟨by rfl, ?_⟩
          intro w hSw
          (try dsimp only at hSw)
          obtain ⟨s0, s1, _⟩ := hSw
          go_simp
          (try with_reducible rfl)
        (try simp only [Act.put, List.setIfInBounds_toArray, List.set_cons_zero, List.set_cons_succ])
        refine' wpAnyH_take (i := 5) (oi := ?oiT5a) (v := ?vT5a) ?hiT5a (by kernel_rfl) (by kernel_rfl) (by kernel_rfl) ?hQT5a ?hyT5a hS ?restT5a
        case hiT5a =>
          simp only [List.getElem?_toArray, List.getElem?_cons_succ, List.getElem?_cons_zero]
          exact rfl
        case hQT5a => exact fun _ _ _ h => h
        case hyT5a =>
          refine Or.inl ⟨by rfl, ?_⟩
          intro w hSw
          (try dsimp only at hSw)
          obtain ⟨s0, s1, _⟩ := hSw
          go_simp
          (try with_reducible rfl)
        (try simp only [Act.put, List.setIfInBounds_toArray, List.set_cons_zero, List.set_cons_succ])
        refine' wpAnyH_take (i := 6) (oi := ?oiT6a) (v := ?vT6a) ?hiT6a (by kernel_rfl) (by kernel_rfl) (by kernel_rfl) ?hQT6a ?hyT6a hS ?restT6a
        case hiT6a =>
          simp only [List.getElem?_toArray, List.getElem?_cons_succ, List.getElem?_cons_zero]
          exact rfl
        case hQT6a => exact fun _ _ _ h => h
        case hyT6a =>
          refine Or.inl ⟨by rfl, ?_⟩
          intro w hSw
          (try dsimp only at hSw)
          obtain ⟨s0, s1, _⟩ := hSw
          go_simp
          (try with_reducible rfl)
        (try simp only [Act.put, List.setIfInBounds_toArray, List.set_cons_zero, List.set_cons_succ])
        refine' wpAnyH_take (i := 7) (oi := ?oiT7a) (v := ?vT7a) ?hiT7a (by kernel_rfl) (by kernel_rfl) (by kernel_rfl) ?hQT7a ?hyT7a hS ?restT7a
        case hiT7a =>
          simp only [List.getElem?_toArray, List.getElem?_cons_succ, List.getElem?_cons_zero]
          exact rfl
        case hQT7a => exact fun _ _ _ h => h
        case hyT7a =>
          refine Or.inl ⟨by rfl, ?_⟩
          intro w hSw
          (try dsimp only at hSw)
          obtain ⟨s0, s1, _⟩ := hSw
          go_simp
          (try with_reducible rfl)
        (try simp only [Act.put, List.setIfInBounds_toArray, List.set_cons_zero, List.set_cons_succ])
        refine' wpAnyH_take (i := 8) (oi := ?oiS8a) (v := undef) ?hiS8a (by kernel_rfl) (by kernel_rfl) (by kernel_rfl) ?hQS8a ?hyS8a hS ?restS8a
        case hiS8a =>
          simp only [List.getElem?_toArray, List.getElem?_cons_succ, List.getElem?_cons_zero]
          exact rfl
        case hQS8a => exact fun _ _ _ h => h
        case hyS8a => exact Or.inr ⟨by rfl, rfl⟩
        (try simp only [Act.put, List.setIfInBounds_toArray, List.set_cons_zero, List.set_cons_succ])
        refine' wpAnyH_take (i := 9) (oi := ?oiS9a) (v := undef) ?hiS9a (by kernel_rfl) (by kernel_rfl) (by kernel_rfl) ?hQS9a ?hyS9a hS ?restS9a
        case hiS9a =>
          simp only [List.getElem?_toArray, List.getElem?_cons_succ, List.getElem?_cons_zero]
          exact rfl
        case hQS9a => exact fun _ _ _ h => h
        case hyS9a => exact Or.inr ⟨by rfl, rfl⟩
        (try simp only [Act.put, List.setIfInBounds_toArray, List.set_cons_zero, List.set_cons_succ])
        refine' wpAnyH_take (i := 10) (oi := ?oiS10a) (v := undef) ?hiS10a (by kernel_rfl) (by kernel_rfl) (by kernel_rfl) ?hQS10a ?hyS10a hS ?restS10a
        case hiS10a =>
          simp only [List.getElem?_toArray, List.getElem?_cons_succ, List.getElem?_cons_zero]
          exact rfl
        case hQS10a => exact fun _ _ _ h => h
        case hyS10a => exact Or.inr ⟨by rfl, rfl⟩
        (try simp only [Act.put, List.setIfInBounds_toArray, List.set_cons_zero, List.set_cons_succ])
        refine' wpAnyH_take (i := 11) (oi := ?oiS11a) (v := undef) ?hiS11a (by kernel_rfl) (by kernel_rfl) (by kernel_rfl) ?hQS11a ?hyS11a hS ?restS11a
        case hiS11a =>
          simp only [List.getElem?_toArray, List.getElem?_cons_succ, List.getElem?_cons_zero]
          exact rfl
        case hQS11a => exact fun _ _ _ h => h
        case hyS11a => exact Or.inr ⟨by rfl, rfl⟩
        (try simp only [Act.put, List.setIfInBounds_toArray, List.set_cons_zero, List.set_cons_succ])
        refine' wpAnyH_take (i := 12) (oi := ?oiS12a) (v := undef) ?hiS12a (by kernel_rfl) (by kernel_rfl) (by kernel_rfl) ?hQS12a ?hyS12a hS ?restS12a
        case hiS12a =>
          simp only [List.getElem?_toArray, List.getElem?_cons_succ, List.getElem?_cons_zero]
          exact rfl
        case hQS12a => exact fun _ _ _ h => h
        case hyS12a => exact Or.inr ⟨by rfl, rfl⟩
        (try simp only [Act.put, List.setIfInBounds_toArray, List.set_cons_zero, List.set_cons_succ])
        refine' wpAnyH_take (i := 13) (oi := ?oiS13a) (v := undef) ?hiS13a (by kernel_rfl) (by kernel_rfl) (by kernel_rfl) ?hQS13a ?hyS13a hS ?restS13a
        case hiS13a =>
          simp only [List.getElem?_toArray, List.getElem?_cons_succ, List.getElem?_cons_zero]
          exact rfl
        case hQS13a => exact fun _ _ _ h => h
        case hyS13a => exact Or.inr ⟨by rfl, rfl⟩
        (try simp only [Act.put, List.setIfInBounds_toArray, List.set_cons_zero, List.set_cons_succ])
        refine' wpAnyH_take (i := 14) (oi := ?oiS14a) (v := undef) ?hiS14a (by kernel_rfl) (by kernel_rfl) (by kernel_rfl) ?hQS14a ?hyS14a hS ?restS14a
        case hiS14a =>
          simp only [List.getElem?_toArray, List.getElem?_cons_succ, List.getElem?_cons_zero]
          exact rfl
        case hQS14a => exact fun _ _ _ h => h
        case hyS14a => exact Or.inr ⟨by rfl, rfl⟩
        (try simp only [Act.put, List.setIfInBounds_toArray, List.set_cons_zero, List.set_cons_succ])
        refine' wpAnyH_take (i := 15) (oi := ?oiS15a) (v := undef) ?hiS15a (by kernel_rfl) (by kernel_rfl) (by kernel_rfl) ?hQS15a ?hyS15a hS ?restS15a
        case hiS15a =>
          simp only [List.getElem?_toArray, List.getElem?_cons_succ, List.getElem?_cons_zero]
          exact rfl
        case hQS15a => exact fun _ _ _ h => h
        case hyS15a => exact Or.inr ⟨by rfl, rfl⟩
        (try simp only [Act.put, List.setIfInBounds_toArray, List.set_cons_zero, List.set_cons_succ])
        refine' wpAnyH_take (i := 16) (oi := ?oiS16a) (v := undef) ?hiS16a (by kernel_rfl) (by kernel_rfl) (by kernel_rfl) ?hQS16a ?hyS16a hS ?restS16a
        case hiS16a =>
          simp only [List.getElem?_toArray, List.getElem?_cons_succ, List.getElem?_cons_zero]
          exact rfl
        case hQS16a => exact fun _ _ _ h => h
        case hyS16a => exact Or.inr ⟨by rfl, rfl⟩
        (try simp only [Act.put, List.setIfInBounds_toArray, List.set_cons_zero, List.set_cons_succ])
        refine' wpAnyH_take (i := 17) (oi := ?oiS17a) (v := undef) ?hiS17a (by kernel_rfl) (by kernel_rfl) (by kernel_rfl) ?hQS17a ?hyS17a hS ?restS17a
        case hiS17a =>
          simp only [List.getElem?_toArray, List.getElem?_cons_succ, List.getElem?_cons_zero]
          exact rfl
        case hQS17a => exact fun _ _ _ h => h
        case hyS17a => exact Or.inr ⟨by rfl, rfl⟩
        (try simp only [Act.put, List.setIfInBounds_toArray, List.set_cons_zero, List.set_cons_succ])
        refine' wpAnyH_take (i := 18) (oi := ?oiS18a) (v := undef) ?hiS18a (by kernel_rfl) (by kernel_rfl) (by kernel_rfl) ?hQS18a ?hyS18a hS ?restS18a
        case hiS18a =>
          simp only [List.getElem?_toArray, List.getElem?_cons_succ, List.getElem?_cons_zero]
          exact rfl
        case hQS18a => exact fun _ _ _ h => h
        case hyS18a => exact Or.inr ⟨by rfl, rfl⟩
        (try simp only [Act.put, List.setIfInBounds_toArray, List.set_cons_zero, List.set_cons_succ])
        refine' wpAnyH_take (i := 19) (oi := ?oiS19a) (v := undef) ?hiS19a (by kernel_rfl) (by kernel_rfl) (by kernel_rfl) ?hQS19a ?hyS19a hS ?restS19a
        case hiS19a =>
          simp only [List.getElem?_toArray, List.getElem?_cons_succ, List.getElem?_cons_zero]
          exact rfl
        case hQS19a => exact fun _ _ _ h => h
        case hyS19a => exact Or.inr ⟨by rfl, rfl⟩
        (try simp only [Act.put, List.setIfInBounds_toArray, List.set_cons_zero, List.set_cons_succ])
        refine' wpAnyH_take (i := 20) (oi := ?oiS20a) (v := undef) ?hiS20a (by kernel_rfl) (by kernel_rfl) (by kernel_rfl) ?hQS20a ?hyS20a hS ?restS20a
        case hiS20a =>
          simp only [List.getElem?_toArray, List.getElem?_cons_succ, List.getElem?_cons_zero]
          exact rfl
        case hQS20a => exact fun _ _ _ h => h
        case hyS20a => exact Or.inr ⟨by rfl, rfl⟩
        (try simp only [Act.put, List.setIfInBounds_toArray, List.set_cons_zero, List.set_cons_succ])
        refine' wpAnyH_take (i := 21) (oi := ?oiS21a) (v := undef) ?hiS21a (by kernel_rfl) (by kernel_rfl) (by kernel_rfl) ?hQS21a ?hyS21a hS ?restS21a
        case hiS21a =>
          simp only [List.getElem?_toArray, List.getElem?_cons_succ, List.getElem?_cons_zero]
          exact rfl
        case hQS21a => exact fun _ _ _ h => h
        case hyS21a => exact Or.inr ⟨by rfl, rfl⟩
        (try simp only [Act.put, List.setIfInBounds_toArray, List.set_cons_zero, List.set_cons_succ])
        refine' wpAnyH_take (i := 22) (oi := ?oiS22a) (v := undef) ?hiS22a (by kernel_rfl) (by kernel_rfl) (by kernel_rfl) ?hQS22a ?hyS22a hS ?restS22a
        case hiS22a =>
          simp only [List.getElem?_toArray, List.getElem?_cons_succ, List.getElem?_cons_zero]
          exact rfl
        case hQS22a => exact fun _ _ _ h => h
        case hyS22a => exact Or.inr ⟨by rfl, rfl⟩
        (try simp only [Act.put, List.setIfInBounds_toArray, List.set_cons_zero, List.set_cons_succ])
        refine' wpAnyH_take (i := 23) (oi := ?oiS23a) (v := undef) ?hiS23a (by kernel_rfl) (by kernel_rfl) (by kernel_rfl) ?hQS23a ?hyS23a hS ?restS23a
        case hiS23a =>
          simp only [List.getElem?_toArray, List.getElem?_cons_succ, List.getElem?_cons_zero]
          exact rfl
        case hQS23a => exact fun _ _ _ h => h
        case hyS23a => exact Or.inr ⟨by rfl, rfl⟩
        (try simp only [Act.put, List.setIfInBounds_toArray, List.set_cons_zero, List.set_cons_succ])
        refine' wpAnyH_take (i := 24) (oi := ?oiS24a) (v := undef) ?hiS24a (by kernel_rfl) (by kernel_rfl) (by kernel_rfl) ?hQS24a ?hyS24a hS ?restS24a
        case hiS24a =>
          simp only [List.getElem?_toArray, List.getElem?_cons_succ, List.getElem?_cons_zero]
          exact rfl
        case hQS24a => exact fun _ _ _ h => h
        case hyS24a => exact Or.inr ⟨by rfl, rfl⟩
        (try simp only [Act.put, List.setIfInBounds_toArray, List.set_cons_zero, List.set_cons_succ])
        refine' wpAnyH_take (i := 25) (oi := ?oiS25a) (v := undef) ?hiS25a (by kernel_rfl) (by kernel_rfl) (by kernel_rfl) ?hQS25a ?hyS25a hS ?restS25a
        case hiS25a =>
          simp only [List.getElem?_toArray, List.getElem?_cons_succ, List.getElem?_cons_zero]
          exact rfl
        case hQS25a => exact fun _ _ _ h => h
        case hyS25a => exact Or.inr ⟨by rfl, rfl⟩
        (try simp only [Act.put, List.setIfInBounds_toArray, List.set_cons_zero, List.set_cons_succ])
        refine' wpAnyH_take (i := 26) (oi := ?oiS26a) (v := undef) ?hiS26a (by kernel_rfl) (by kernel_rfl) (by kernel_rfl) ?hQS26a ?hyS26a hS ?restS26a
        case hiS26a =>
          simp only [List.getElem?_toArray, List.getElem?_cons_succ, List.getElem?_cons_zero]
          exact rfl
        case hQS26a => exact fun _ _ _ h => h
        case hyS26a => exact Or.inr ⟨by rfl, rfl⟩
        (try simp only [Act.put, List.setIfInBounds_toArray, List.set_cons_zero, List.set_cons_succ])
        refine' wpAnyH_take (i := 27) (oi := ?oiS27a) (v := undef) ?hiS27a (by kernel_rfl) (by kernel_rfl) (by kernel_rfl) ?hQS27a ?hyS27a hS ?restS27a
        case hiS27a =>
          simp only [List.getElem?_toArray, List.getElem?_cons_succ, List.getElem?_cons_zero]
          exact rfl
        case hQS27a => exact fun _ _ _ h => h
        case hyS27a => exact Or.inr ⟨by rfl, rfl⟩
        (try simp only [Act.put, List.setIfInBounds_toArray, List.set_cons_zero, List.set_cons_succ])
        refine' wpAnyH_take (i := 28) (oi := ?oiS28a) (v := undef) ?hiS28a (by kernel_rfl) (by kernel_rfl) (by kernel_rfl) ?hQS28a ?hyS28a hS ?restS28a
        case hiS28a =>
          simp only [List.getElem?_toArray, List.getElem?_cons_succ, List.getElem?_cons_zero]
          exact rfl
        case hQS28a => exact fun _ _ _ h => h
        case hyS28a => exact Or.inr ⟨by rfl, rfl⟩
        (try simp only [Act.put, List.setIfInBounds_toArray, List.set_cons_zero, List.set_cons_succ])
        refine' wpAnyH_take (i := 29) (oi := ?oiS29a) (v := undef) ?hiS29a (by kernel_rfl) (by kernel_rfl) (by kernel_rfl) ?hQS29a ?hyS29a hS ?restS29a
        case hiS29a =>
          simp only [List.getElem?_toArray, List.getElem?_cons_succ, List.getElem?_cons_zero]
          exact rfl
        case hQS29a => exact fun _ _ _ h => h
        case hyS29a => exact Or.inr ⟨by rfl, rfl⟩
        (try simp only [Act.put, List.setIfInBounds_toArray, List.set_cons_zero, List.set_cons_succ])
        refine' wpAnyH_take (i := 30) (oi := ?oiS30a) (v := undef) ?hiS30a (by kernel_rfl) (by kernel_rfl) (by kernel_rfl) ?hQS30a ?hyS30a hS ?restS30a
        case hiS30a =>
          simp only [List.getElem?_toArray, List.getElem?_cons_succ, List.getElem?_cons_zero]
          exact rfl
        case hQS30a => exact fun _ _ _ h => h
        case hyS30a => exact Or.inr ⟨by rfl, rfl⟩
        (try simp only [Act.put, List.setIfInBounds_toArray, List.set_cons_zero, List.set_cons_succ])
        refine' wpAnyH_take (i := 31) (oi := ?oiS31a) (v := undef) ?hiS31a (by kernel_rfl) (by kernel_rfl) (by kernel_rfl) ?hQS31a ?hyS31a hS ?restS31a
        case hiS31a =>
          simp only [List.getElem?_toArray, List.getElem?_cons_succ, List.getElem?_cons_zero]
          exact rfl
        case hQS31a => exact fun _ _ _ h => h
        case hyS31a => exact Or.inr ⟨by rfl, rfl⟩
        (try simp only [Act.put, List.setIfInBounds_toArray, List.set_cons_zero, List.set_cons_succ])
        refine' wpAnyH_take (i := 32) (oi := ?oiS32a) (v := undef) ?hiS32a (by kernel_rfl) (by kernel_rfl) (by kernel_rfl) ?hQS32a ?hyS32a hS ?restS32a
        case hiS32a =>
          simp only [List.getElem?_toArray, List.getElem?_cons_succ, List.getElem?_cons_zero]
          exact rfl
        case hQS32a => exact fun _ _ _ h => h
        case hyS32a => exact Or.inr ⟨by rfl, rfl⟩
        (try simp only [Act.put, List.setIfInBounds_toArray, List.set_cons_zero, List.set_cons_succ])
        refine' wpAnyH_take (i := 33) (oi := ?oiS33a) (v := undef) ?hiS33a (by kernel_rfl) (by kernel_rfl) (by kernel_rfl) ?hQS33a ?hyS33a hS ?restS33a
        case hiS33a =>
          simp only [List.getElem?_toArray, List.getElem?_cons_succ, List.getElem?_cons_zero]
          exact rfl
        case hQS33a => exact fun _ _ _ h => h
        case hyS33a => exact Or.inr ⟨by rfl, rfl⟩
        (try simp only [Act.put, List.setIfInBounds_toArray, List.set_cons_zero, List.set_cons_succ])
        refine' wpAnyH_take (i := 34) (oi := ?oiS34a) (v := undef) ?hiS34a (by kernel_rfl) (by kernel_rfl) (by kernel_rfl) ?hQS34a ?hyS34a hS ?restS34a
        case hiS34a =>
          simp only [List.getElem?_toArray, List.getElem?_cons_succ, List.getElem?_cons_zero]
          exact rfl
        case hQS34a => exact fun _ _ _ h => h
        case hyS34a => exact Or.inr ⟨by rfl, rfl⟩
        (try simp only [Act.put, List.setIfInBounds_toArray, List.set_cons_zero, List.set_cons_succ])
        refine' wpAnyH_take (i := 35) (oi := ?oiS35a) (v := undef) ?hiS35a (by kernel_rfl) (by kernel_rfl) (by kernel_rfl) ?hQS35a ?hyS35a hS ?restS35a
        case hiS35a =>
          simp only [List.getElem?_toArray, List.getElem?_cons_succ, List.getElem?_cons_zero]
          exact rfl
        case hQS35a => exact fun _ _ _ h => h
        case hyS35a => exact Or.inr ⟨by rfl, rfl⟩
        (try simp only [Act.put, List.setIfInBounds_toArray, List.set_cons_zero, List.set_cons_succ])
        refine' wpAnyH_take (i := 36) (oi := ?oiT36a) (v := ?vT36a) ?hiT36a (by kernel_rfl) (by kernel_rfl) (by kernel_rfl) ?hQT36a ?hyT36a hS ?restT36a
        case hiT36a =>
          simp only [List.getElem?_toArray, List.getElem?_cons_succ, List.getElem?_cons_zero]
          exact rfl
        case hQT36a => exact fun _ _ _ h => h
        case hyT36a =>
          refine Or.inl ⟨by rfl, ?_⟩
          intro w hSw
          (try dsimp only at hSw)
          obtain ⟨s0, s1, _⟩ := hSw
          go_simp
          (try with_reducible rfl)
        (try simp only [Act.put, List.setIfInBounds_toArray, List.set_cons_zero, List.set_cons_succ])
        refine wpAnyH_done (by kernel_rfl) ?_ _
        have hB2 : Below w11.heap.size w11 wr.drew := hB.drew
        go_wp2
        go_roundw
        case rel => exact ⟨k + 1, by omega, by go_num, hB2⟩
        case measure => simp [intOf]; omega
      · have e1 : (yn == n) = false := by rw [beq_eq_false_iff_ne]; exact hyn
        obtain ⟨hA, hBb⟩ := hall hyn
        have CA := Lib.hid (fun (W : World) (hb : Below wr.heap.size wr W) => get_any aa xa.length ca xa hxl yn W (labs_later LA hb))
        have CB := Lib.hid (fun (W : World) (hb : Below wr.heap.size wr W) => get_any ab xb.length cb xb hol yn W (labs_later LB hb))
        rw [hA] at CA
        rw [hBb] at CB
        have e2 : (yv == yv) = true := beq_self_eq_true _
        clear hall hyn hA hBb
        go_wp2
        refine wp_region_held_drew (S := fun u => u.cell? ⟨b, off + k * 2, none⟩ = some (.string ⟨yn.toArray⟩) ∧ u.cell? ⟨b, off + k * 2 + 1, none⟩ = some (.string ⟨yv.toArray⟩) ∧ Below wr.heap.size wr u) (by kernel_rfl) ?_ (fun hS => ?_)
        · exact ⟨c0, c1, (Below.refl _ _).drew⟩
        refine' wpAnyH_take (i := 0) (oi := ?oiT0b) (v := ?vT0b) ?hiT0b (by kernel_rfl) (by kernel_rfl) (by kernel_rfl) ?hQT0b ?hyT0b hS ?restT0b
        case hiT0b =>
          simp only [List.getElem?_toArray, List.getElem?_cons_zero]
          exact rfl
        case hQT0b => exact fun _ _ _ h => h
        case hyT0b =>
          refine Or.inl ⟨by rfl, ?_⟩
          intro w hSw
          (try dsimp only at hSw)
          obtain ⟨s0, s1, _⟩ := hSw
          go_simp
          (try with_reducible rfl)
        (try simp only [Act.put, List.setIfInBounds_toArray, List.set_cons_zero, List.set_cons_succ])
        refine' wpAnyH_take (i := 1) (oi := ?oiT1b) (v := ?vT1b) ?hiT1b (by kernel_rfl) (by kernel_rfl) (by kernel_rfl) ?hQT1b ?hyT1b hS ?restT1b
        case hiT1b =>
          simp only [List.getElem?_toArray, List.getElem?_cons_succ, List.getElem?_cons_zero]
          exact rfl
        case hQT1b => exact fun _ _ _ h => h
        case hyT1b =>
          refine Or.inl ⟨by rfl, ?_⟩
          intro w hSw
          (try dsimp only at hSw)
          obtain ⟨s0, s1, _⟩ := hSw
          go_simp
          (try with_reducible rfl)
        (try simp only [Act.put, List.setIfInBounds_toArray, List.set_cons_zero, List.set_cons_succ])
        refine' wpAnyH_take (i := 2) (oi := ?oiT2b) (v := ?vT2b) ?hiT2b (by kernel_rfl) (by kernel_rfl) (by kernel_rfl) ?hQT2b ?hyT2b hS ?restT2b
        case hiT2b =>
          simp only [List.getElem?_toArray, List.getElem?_cons_succ, List.getElem?_cons_zero]
          exact rfl
        case hQT2b => exact fun _ _ _ h => h
        case hyT2b =>
          refine Or.inl ⟨by rfl, ?_⟩
          intro w hSw
          (try dsimp only at hSw)
          obtain ⟨s0, s1, _⟩ := hSw
          go_simp
          (try with_reducible rfl)
        (try simp only [Act.put, List.setIfInBounds_toArray, List.set_cons_zero, List.set_cons_succ])
        refine' wpAnyH_take (i := 3) (oi := ?oiT3b) (v := ?vT3b) ?hiT3b (by kernel_rfl) (by kernel_rfl) (by kernel_rfl) ?hQT3b ?hyT3b hS ?restT3b
        case hiT3b =>
          simp only [List.getElem?_toArray, List.getElem?_cons_succ, List.getElem?_cons_zero]
          exact rfl
        case hQT3b => exact fun _ _ _ h => h
        case hyT3b =>
          refine Or.inl ⟨by rfl, ?_⟩
          intro w hSw
          (try dsimp only at hSw)
          obtain ⟨s0, s1, _⟩ := hSw
          go_simp
          (try with_reducible rfl)
        (try simp only [Act.put, List.setIfInBounds_toArray, List.set_cons_zero, List.set_cons_succ])
        refine' wpAnyH_take (i := 4) (oi := ?oiT4b) (v := ?vT4b) ?hiT4b (by kernel_rfl) (by kernel_rfl) (by kernel_rfl) ?hQT4b ?hyT4b hS ?restT4b
        case hiT4b =>
          simp only [List.getElem?_toArray, List.getElem?_cons_succ, List.getElem?_cons_zero]
          exact rfl
        case hQT4b => exact fun _ _ _ h => h
        case hyT4b =>
          refine Or.inl ⟨by rfl, ?_⟩
          intro w hSw
          (try dsimp only at hSw)
          obtain ⟨s0, s1, _⟩ := hSw
          go_simp
          (try with_reducible rfl)
        (try simp only [Act.put, List.setIfInBounds_toArray, List.set_cons_zero, List.set_cons_succ])
        refine' wpAnyH_take (i := 5) (oi := ?oiT5b) (v := ?vT5b) ?hiT5b (by kernel_rfl) (by kernel_rfl) (by kernel_rfl) ?hQT5b ?hyT5b hS ?restT5b
        case hiT5b =>
          simp only [List.getElem?_toArray, List.getElem?_cons_succ, List.getElem?_cons_zero]
          exact rfl
        case hQT5b => exact fun _ _ _ h => h
        case hyT5b =>
          refine Or.inl ⟨by rfl, ?_⟩
          intro w hSw
          (try dsimp only at hSw)
          obtain ⟨s0, s1, _⟩ := hSw
          go_simp
          (try with_reducible rfl)
        (try simp only [Act.put, List.setIfInBounds_toArray, List.set_cons_zero, List.set_cons_succ])
        refine' wpAnyH_take (i := 6) (oi := ?oiT6b) (v := ?vT6b) ?hiT6b (by kernel_rfl) (by kernel_rfl) (by kernel_rfl) ?hQT6b ?hyT6b hS ?restT6b
        case hiT6b =>
          simp only [List.getElem?_toArray, List.getElem?_cons_succ, List.getElem?_cons_zero]
          exact rfl
        case hQT6b => exact fun _ _ _ h => h
        case hyT6b =>
          refine Or.inl ⟨by rfl, ?_⟩
          intro w hSw
          (try dsimp only at hSw)
          obtain ⟨s0, s1, _⟩ := hSw
          go_simp
          (try with_reducible rfl)
        (try simp only [Act.put, List.setIfInBounds_toArray, List.set_cons_zero, List.set_cons_succ])
        refine' wpAnyH_take (i := 7) (oi := ?oiT7b) (v := ?vT7b) ?hiT7b (by kernel_rfl) (by kernel_rfl) (by kernel_rfl) ?hQT7b ?hyT7b hS ?restT7b
        case hiT7b =>
          simp only [List.getElem?_toArray, List.getElem?_cons_succ, List.getElem?_cons_zero]
          exact rfl
        case hQT7b => exact fun _ _ _ h => h
        case hyT7b =>
          refine Or.inl ⟨by rfl, ?_⟩
          intro w hSw
          (try dsimp only at hSw)
          obtain ⟨s0, s1, _⟩ := hSw
          go_simp
          (try with_reducible rfl)
        (try simp only [Act.put, List.setIfInBounds_toArray, List.set_cons_zero, List.set_cons_succ])
        refine' wpAnyH_take (i := 8) (oi := ?oiT8b) (v := ?vT8b) ?hiT8b (by kernel_rfl) (by kernel_rfl) (by kernel_rfl) ?hQT8b ?hyT8b hS ?restT8b
        case hiT8b =>
          simp only [List.getElem?_toArray, List.getElem?_cons_succ, List.getElem?_cons_zero]
          exact rfl
        case hQT8b => exact fun _ _ _ h => h
        case hyT8b =>
          refine Or.inl ⟨by rfl, ?_⟩
          intro w hSw
          (try dsimp only at hSw)
          obtain ⟨s0, s1, _⟩ := hSw
          go_simp
          (try with_reducible rfl)
        (try simp only [Act.put, List.setIfInBounds_toArray, List.set_cons_zero, List.set_cons_succ])
        refine' wpAnyH_take (i := 9) (oi := ?oiT9b) (v := ?vT9b) ?hiT9b (by kernel_rfl) (by kernel_rfl) (by kernel_rfl) ?hQT9b ?hyT9b hS ?restT9b
        case hiT9b =>
          simp only [List.getElem?_toArray, List.getElem?_cons_succ, List.getElem?_cons_zero]
          exact rfl
        case hQT9b => exact fun _ _ _ h => h
        case hyT9b =>
          refine Or.inl ⟨by rfl, ?_⟩
          intro w hSw
          (try dsimp only at hSw)
          obtain ⟨s0, s1, _⟩ := hSw
          go_simp
          (try with_reducible rfl)
        (try simp only [Act.put, List.setIfInBounds_toArray, List.set_cons_zero, List.set_cons_succ])
        refine' wpAnyH_take (i := 10) (oi := ?oiT10b) (v := ?vT10b) ?hiT10b (by kernel_rfl) (by kernel_rfl) (by kernel_rfl) ?hQT10b ?hyT10b hS ?restT10b
        case hiT10b =>
          simp only [List.getElem?_toArray, List.getElem?_cons_succ, List.getElem?_cons_zero]
          exact rfl
        case hQT10b => exact fun _ _ _ h => h
        case hyT10b =>
          refine Or.inl ⟨by rfl, ?_⟩
          intro w hSw
          (try dsimp only at hSw)
          obtain ⟨s0, s1, _⟩ := hSw
          go_simp
          (try with_reducible rfl)
        (try simp only [Act.put, List.setIfInBounds_toArray, List.set_cons_zero, List.set_cons_succ])
        refine' wpAnyH_take (i := 11) (oi := ?oiT11b) (v := ?vT11b) ?hiT11b (by kernel_rfl) (by kernel_rfl) (by kernel_rfl) ?hQT11b ?hyT11b hS ?restT11b
        case hiT11b =>
          simp only [List.getElem?_toArray, List.getElem?_cons_succ, List.getElem?_cons_zero]
          exact rfl
        case hQT11b => exact fun _ _ _ h => h
        case hyT11b =>
          refine Or.inl ⟨by rfl, ?_⟩
          intro w hSw
          (try dsimp only at hSw)
          obtain ⟨s0, s1, _⟩ := hSw
          go_simp
          (try with_reducible rfl)
        (try simp only [Act.put, List.setIfInBounds_toArray, List.set_cons_zero, List.set_cons_succ])
        refine' wpAnyH_take (i := 12) (oi := ?oiT12b) (v := ?vT12b) ?hiT12b (by kernel_rfl) (by kernel_rfl) (by kernel_rfl) ?hQT12b ?hyT12b hS ?restT12b
        case hiT12b =>
          simp only [List.getElem?_toArray, List.getElem?_cons_succ, List.getElem?_cons_zero]
          exact rfl
        case hQT12b => exact fun _ _ _ h => h
        case hyT12b =>
          refine Or.inl ⟨by rfl, ?_⟩
          intro w hSw
          (try dsimp only at hSw)
          obtain ⟨s0, s1, _⟩ := hSw
          go_simp
          (try with_reducible rfl)
        (try simp only [Act.put, List.setIfInBounds_toArray, List.set_cons_zero, List.set_cons_succ])
        refine' wpAnyH_take (i := 13) (oi := ?oiT13b) (v := ?vT13b) ?hiT13b (by kernel_rfl) (by kernel_rfl) (by kernel_rfl) ?hQT13b ?hyT13b hS ?restT13b
        case hiT13b =>
          simp only [List.getElem?_toArray, List.getElem?_cons_succ, List.getElem?_cons_zero]
          exact rfl
        case hQT13b => exact fun _ _ _ h => h
        case hyT13b =>
          refine Or.inl ⟨by rfl, ?_⟩
          intro w hSw
          (try dsimp only at hSw)
          obtain ⟨s0, s1, _⟩ := hSw
          go_simp
          (try with_reducible rfl)
        (try simp only [Act.put, List.setIfInBounds_toArray, List.set_cons_zero, List.set_cons_succ])
        refine' wpAnyH_take (i := 15) (oi := ?oiT15b) (v := ?vT15b) ?hiT15b (by kernel_rfl) (by kernel_rfl) (by kernel_rfl) ?hQT15b ?hyT15b hS ?restT15b
        case hiT15b =>
          simp only [List.getElem?_toArray, List.getElem?_cons_succ, List.getElem?_cons_zero]
          exact rfl
        case hQT15b => exact fun _ _ _ h => h
        case hyT15b =>
          refine Or.inl ⟨by rfl, ?_⟩
          intro w hSw
          (try dsimp only at hSw)
          obtain ⟨s0, s1, _⟩ := hSw
          go_simp
          (try with_reducible rfl)
        (try simp only [Act.put, List.setIfInBounds_toArray, List.set_cons_zero, List.set_cons_succ])
        refine' wpAnyH_take (i := 16) (oi := ?oiT16b) (v := ?vT16b) ?hiT16b (by kernel_rfl) (by kernel_rfl) (by kernel_rfl) ?hQT16b ?hyT16b hS ?restT16b
        case hiT16b =>
          simp only [List.getElem?_toArray, List.getElem?_cons_succ, List.getElem?_cons_zero]
          exact rfl
        case hQT16b => exact fun _ _ _ h => h
        case hyT16b =>
          refine Or.inl ⟨by rfl, ?_⟩
          intro w hSw
          (try dsimp only at hSw)
          obtain ⟨s0, s1, _⟩ := hSw
          go_simp
          (try with_reducible rfl)
        (try simp only [Act.put, List.setIfInBounds_toArray, List.set_cons_zero, List.set_cons_succ])
        refine' wpAnyH_take (i := 17) (oi := ?oiT17b) (v := ?vT17b) ?hiT17b (by kernel_rfl) (by kernel_rfl) (by kernel_rfl) ?hQT17b ?hyT17b hS ?restT17b
        case hiT17b =>
          simp only [List.getElem?_toArray, List.getElem?_cons_succ, List.getElem?_cons_zero]
          exact rfl
        case hQT17b => exact fun _ _ _ h => h
        case hyT17b =>
          refine Or.inl ⟨by rfl, ?_⟩
          intro w hSw
          (try dsimp only at hSw)
          obtain ⟨s0, s1, _⟩ := hSw
          go_simp
          (try with_reducible rfl)
        (try simp only [Act.put, List.setIfInBounds_toArray, List.set_cons_zero, List.set_cons_succ])
        refine' wpAnyH_take (i := 18) (oi := ?oiT18b) (v := ?vT18b) ?hiT18b (by kernel_rfl) (by kernel_rfl) (by kernel_rfl) ?hQT18b ?hyT18b hS ?restT18b
        case hiT18b =>
          simp only [List.getElem?_toArray, List.getElem?_cons_succ, List.getElem?_cons_zero]
          exact rfl
        case hQT18b => exact fun _ _ _ h => h
        case hyT18b =>
          refine Or.inl ⟨by rfl, ?_⟩
          intro w hSw
          (try dsimp only at hSw)
          obtain ⟨s0, s1, _⟩ := hSw
          go_simp
          (try with_reducible rfl)
        (try simp only [Act.put, List.setIfInBounds_toArray, List.set_cons_zero, List.set_cons_succ])
        refine' wpAnyH_take (i := 19) (oi := ?oiT19b) (v := ?vT19b) ?hiT19b (by kernel_rfl) (by kernel_rfl) (by kernel_rfl) ?hQT19b ?hyT19b hS ?restT19b
        case hiT19b =>
          simp only [List.getElem?_toArray, List.getElem?_cons_succ, List.getElem?_cons_zero]
          exact rfl
        case hQT19b => exact fun _ _ _ h => h
        case hyT19b =>
          refine Or.inl ⟨by rfl, ?_⟩
          intro w hSw
          (try dsimp only at hSw)
          obtain ⟨s0, s1, _⟩ := hSw
          go_simp
          (try with_reducible rfl)
        (try simp only [Act.put, List.setIfInBounds_toArray, List.set_cons_zero, List.set_cons_succ])
        refine wpAnyH_ready (rs := [14]) (by kernel_rfl) (by simp) ?_
        refine' AllReadyH.cons (o := ?ooC14b) ?hoC14b (fun K hK => ?stC14b) AllReadyH.nil
        case hoC14b =>
          simp only [List.getElem?_toArray, List.getElem?_cons_succ, List.getElem?_cons_zero]
          exact rfl
        go_simp
        go_at_call 25
        refine (CA.out _ hS.2.2).mono ?_
        rintro e w' ⟨rfl, hb'⟩
        go_wp2_with fail
        refine hK.out _ _ ?_ (fun hS => ?_)
        · exact ⟨(hb'.cell (p := ⟨b, off + k * 2, none⟩) (Nat.lt_of_lt_of_le hbw hS.2.2.size)).trans hS.1, (hb'.cell (p := ⟨b, off + k * 2 + 1, none⟩) (Nat.lt_of_lt_of_le hbw hS.2.2.size)).trans hS.2.1, below_then hS.2.2 hb'⟩
        clear hK K hb'
        (try simp only [Act.put, List.setIfInBounds_toArray, List.set_cons_zero, List.set_cons_succ])
        refine' wpAnyH_take (i := 20) (oi := ?oiT20b) (v := ?vT20b) ?hiT20b (by kernel_rfl) (by kernel_rfl) (by kernel_rfl) ?hQT20b ?hyT20b hS ?restT20b
        case hiT20b =>
          simp only [List.getElem?_toArray, List.getElem?_cons_succ, List.getElem?_cons_zero]
          exact rfl
        case hQT20b => exact fun _ _ _ h => h
        case hyT20b =>
          refine Or.inl ⟨by rfl, ?_⟩
          intro w hSw
          (try dsimp only at hSw)
          obtain ⟨s0, s1, _⟩ := hSw
          go_simp
          (try with_reducible rfl)
        (try simp only [Act.put, List.setIfInBounds_toArray, List.set_cons_zero, List.set_cons_succ])
        refine' wpAnyH_take (i := 21) (oi := ?oiT21b) (v := ?vT21b) ?hiT21b (by kernel_rfl) (by kernel_rfl) (by kernel_rfl) ?hQT21b ?hyT21b hS ?restT21b
        case hiT21b =>
          simp only [List.getElem?_toArray, List.getElem?_cons_succ, List.getElem?_cons_zero]
          exact rfl
        case hQT21b => exact fun _ _ _ h => h
        case hyT21b =>
          refine Or.inl ⟨by rfl, ?_⟩
          intro w hSw
          (try dsimp only at hSw)
          obtain ⟨s0, s1, _⟩ := hSw
          go_simp
          (try with_reducible rfl)
        (try simp only [Act.put, List.setIfInBounds_toArray, List.set_cons_zero, List.set_cons_succ])
        refine' wpAnyH_take (i := 22) (oi := ?oiT22b) (v := ?vT22b) ?hiT22b (by kernel_rfl) (by kernel_rfl) (by kernel_rfl) ?hQT22b ?hyT22b hS ?restT22b
        case hiT22b =>
          simp only [List.getElem?_toArray, List.getElem?_cons_succ, List.getElem?_cons_zero]
          exact rfl
        case hQT22b => exact fun _ _ _ h => h
        case hyT22b =>
          refine Or.inl ⟨by rfl, ?_⟩
          intro w hSw
          (try dsimp only at hSw)
          obtain ⟨s0, s1, _⟩ := hSw
          go_simp
          (try with_reducible rfl)
        (try simp only [Act.put, List.setIfInBounds_toArray, List.set_cons_zero, List.set_cons_succ])
        refine' wpAnyH_take (i := 23) (oi := ?oiT23b) (v := ?vT23b) ?hiT23b (by kernel_rfl) (by kernel_rfl) (by kernel_rfl) ?hQT23b ?hyT23b hS ?restT23b
        case hiT23b =>
          simp only [List.getElem?_toArray, List.getElem?_cons_succ, List.getElem?_cons_zero]
          exact rfl
        case hQT23b => exact fun _ _ _ h => h
        case hyT23b =>
          refine Or.inl ⟨by rfl, ?_⟩
          intro w hSw
          (try dsimp only at hSw)
          obtain ⟨s0, s1, _⟩ := hSw
          go_simp
          (try with_reducible rfl)
        (try simp only [Act.put, List.setIfInBounds_toArray, List.set_cons_zero, List.set_cons_succ])
        refine' wpAnyH_take (i := 24) (oi := ?oiT24b) (v := ?vT24b) ?hiT24b (by kernel_rfl) (by kernel_rfl) (by kernel_rfl) ?hQT24b ?hyT24b hS ?restT24b
        case hiT24b =>
          simp only [List.getElem?_toArray, List.getElem?_cons_succ, List.getElem?_cons_zero]
          exact rfl
        case hQT24b => exact fun _ _ _ h => h
        case hyT24b =>
          refine Or.inl ⟨by rfl, ?_⟩
          intro w hSw
          (try dsimp only at hSw)
          obtain ⟨s0, s1, _⟩ := hSw
          go_simp
          (try with_reducible rfl)
        (try simp only [Act.put, List.setIfInBounds_toArray, List.set_cons_zero, List.set_cons_succ])
        refine' wpAnyH_take (i := 25) (oi := ?oiT25b) (v := ?vT25b) ?hiT25b (by kernel_rfl) (by kernel_rfl) (by kernel_rfl) ?hQT25b ?hyT25b hS ?restT25b
        case hiT25b =>
          simp only [List.getElem?_toArray, List.getElem?_cons_succ, List.getElem?_cons_zero]
          exact rfl
        case hQT25b => exact fun _ _ _ h => h
        case hyT25b =>
          refine Or.inl ⟨by rfl, ?_⟩
          intro w hSw
          (try dsimp only at hSw)
          obtain ⟨s0, s1, _⟩ := hSw
          go_simp
          (try with_reducible rfl)
        (try simp only [Act.put, List.setIfInBounds_toArray, List.set_cons_zero, List.set_cons_succ])
        refine' wpAnyH_take (i := 26) (oi := ?oiT26b) (v := ?vT26b) ?hiT26b (by kernel_rfl) (by kernel_rfl) (by kernel_rfl) ?hQT26b ?hyT26b hS ?restT26b
        case hiT26b =>
          simp only [List.getElem?_toArray, List.getElem?_cons_succ, List.getElem?_cons_zero]
          exact rfl
        case hQT26b => exact fun _ _ _ h => h
        case hyT26b =>
          refine Or.inl ⟨by rfl, ?_⟩
          intro w hSw
          (try dsimp only at hSw)
          obtain ⟨s0, s1, _⟩ := hSw
          go_simp
          (try with_reducible rfl)
        (try simp only [Act.put, List.setIfInBounds_toArray, List.set_cons_zero, List.set_cons_succ])
        refine' wpAnyH_take (i := 27) (oi := ?oiT27b) (v := ?vT27b) ?hiT27b (by kernel_rfl) (by kernel_rfl) (by kernel_rfl) ?hQT27b ?hyT27b hS ?restT27b
        case hiT27b =>
          simp only [List.getElem?_toArray, List.getElem?_cons_succ, List.getElem?_cons_zero]
          exact rfl
        case hQT27b => exact fun _ _ _ h => h
        case hyT27b =>
          refine Or.inl ⟨by rfl, ?_⟩
          intro w hSw
          (try dsimp only at hSw)
          obtain ⟨s0, s1, _⟩ := hSw
          go_simp
          (try with_reducible rfl)
        (try simp only [Act.put, List.setIfInBounds_toArray, List.set_cons_zero, List.set_cons_succ])
        refine' wpAnyH_take (i := 29) (oi := ?oiT29b) (v := ?vT29b) ?hiT29b (by kernel_rfl) (by kernel_rfl) (by kernel_rfl) ?hQT29b ?hyT29b hS ?restT29b
        case hiT29b =>
          simp only [List.getElem?_toArray, List.getElem?_cons_succ, List.getElem?_cons_zero]
          exact rfl
        case hQT29b => exact fun _ _ _ h => h
        case hyT29b =>
          refine Or.inl ⟨by rfl, ?_⟩
          intro w hSw
          (try dsimp only at hSw)
          obtain ⟨s0, s1, _⟩ := hSw
          go_simp
          (try with_reducible rfl)
        (try simp only [Act.put, List.setIfInBounds_toArray, List.set_cons_zero, List.set_cons_succ])
        refine' wpAnyH_take (i := 30) (oi := ?oiT30b) (v := ?vT30b) ?hiT30b (by kernel_rfl) (by kernel_rfl) (by kernel_rfl) ?hQT30b ?hyT30b hS ?restT30b
        case hiT30b =>
          simp only [List.getElem?_toArray, List.getElem?_cons_succ, List.getElem?_cons_zero]
          exact rfl
        case hQT30b => exact fun _ _ _ h => h
        case hyT30b =>
          refine Or.inl ⟨by rfl, ?_⟩
          intro w hSw
          (try dsimp only at hSw)
          obtain ⟨s0, s1, _⟩ := hSw
          go_simp
          (try with_reducible rfl)
        (try simp only [Act.put, List.setIfInBounds_toArray, List.set_cons_zero, List.set_cons_succ])
        refine' wpAnyH_take (i := 31) (oi := ?oiT31b) (v := ?vT31b) ?hiT31b (by kernel_rfl) (by kernel_rfl) (by kernel_rfl) ?hQT31b ?hyT31b hS ?restT31b
        case hiT31b =>
          simp only [List.getElem?_toArray, List.getElem?_cons_succ, List.getElem?_cons_zero]
          exact rfl
        case hQT31b => exact fun _ _ _ h => h
        case hyT31b =>
          refine Or.inl ⟨by rfl, ?_⟩
          intro w hSw
          (try dsimp only at hSw)
          obtain ⟨s0, s1, _⟩ := hSw
          go_simp
          (try with_reducible rfl)
        (try simp only [Act.put, List.setIfInBounds_toArray, List.set_cons_zero, List.set_cons_succ])
        refine' wpAnyH_take (i := 32) (oi := ?oiT32b) (v := ?vT32b) ?hiT32b (by kernel_rfl) (by kernel_rfl) (by kernel_rfl) ?hQT32b ?hyT32b hS ?restT32b
        case hiT32b =>
          simp only [List.getElem?_toArray, List.getElem?_cons_succ, List.getElem?_cons_zero]
          exact rfl
        case hQT32b => exact fun _ _ _ h => h
        case hyT32b =>
          refine Or.inl ⟨by rfl, ?_⟩
          intro w hSw
          (try dsimp only at hSw)
          obtain ⟨s0, s1, _⟩ := hSw
          go_simp
          (try with_reducible rfl)
        (try simp only [Act.put, List.setIfInBounds_toArray, List.set_cons_zero, List.set_cons_succ])
        refine' wpAnyH_take (i := 33) (oi := ?oiT33b) (v := ?vT33b) ?hiT33b (by kernel_rfl) (by kernel_rfl) (by kernel_rfl) ?hQT33b ?hyT33b hS ?restT33b
        case hiT33b =>
          simp only [List.getElem?_toArray, List.getElem?_cons_succ, List.getElem?_cons_zero]
          exact rfl
        case hQT33b => exact fun _ _ _ h => h
        case hyT33b =>
          refine Or.inl ⟨by rfl, ?_⟩
          intro w hSw
          (try dsimp only at hSw)
          obtain ⟨s0, s1, _⟩ := hSw
          go_simp
          (try with_reducible rfl)
        (try simp only [Act.put, List.setIfInBounds_toArray, List.set_cons_zero, List.set_cons_succ])
        refine wpAnyH_ready (rs := [28]) (by kernel_rfl) (by simp) ?_
        refine' AllReadyH.cons (o := ?ooC28b) ?hoC28b (fun K hK => ?stC28b) AllReadyH.nil
        case hoC28b =>
          simp only [List.getElem?_toArray, List.getElem?_cons_succ, List.getElem?_cons_zero]
          exact rfl
        go_simp
        go_at_call 25
        refine (CB.out _ hS.2.2).mono ?_
        rintro e w' ⟨rfl, hb'⟩
        go_wp2_with fail
        refine hK.out _ _ ?_ (fun hS => ?_)
        · exact ⟨(hb'.cell (p := ⟨b, off + k * 2, none⟩) (Nat.lt_of_lt_of_le hbw hS.2.2.size)).trans hS.1, (hb'.cell (p := ⟨b, off + k * 2 + 1, none⟩) (Nat.lt_of_lt_of_le hbw hS.2.2.size)).trans hS.2.1, below_then hS.2.2 hb'⟩
        clear hK K hb'
        (try simp only [Act.put, List.setIfInBounds_toArray, List.set_cons_zero, List.set_cons_succ])
        refine' wpAnyH_take (i := 34) (oi := ?oiT34b) (v := ?vT34b) ?hiT34b (by kernel_rfl) (by kernel_rfl) (by kernel_rfl) ?hQT34b ?hyT34b hS ?restT34b
        case hiT34b =>
          simp only [List.getElem?_toArray, List.getElem?_cons_succ, List.getElem?_cons_zero]
          exact rfl
        case hQT34b => exact fun _ _ _ h => h
        case hyT34b =>
          refine Or.inl ⟨by rfl, ?_⟩
          intro w hSw
          (try dsimp only at hSw)
          obtain ⟨s0, s1, _⟩ := hSw
          go_simp
          (try with_reducible rfl)
        (try simp only [Act.put, List.setIfInBounds_toArray, List.set_cons_zero, List.set_cons_succ])
        refine' wpAnyH_take (i := 35) (oi := ?oiT35b) (v := ?vT35b) ?hiT35b (by kernel_rfl) (by kernel_rfl) (by kernel_rfl) ?hQT35b ?hyT35b hS ?restT35b
        case hiT35b =>
          simp only [List.getElem?_toArray, List.getElem?_cons_succ, List.getElem?_cons_zero]
          exact rfl
        case hQT35b => exact fun _ _ _ h => h
        case hyT35b =>
          refine Or.inl ⟨by rfl, ?_⟩
          intro w hSw
          (try dsimp only at hSw)
          obtain ⟨s0, s1, _⟩ := hSw
          go_simp
          (try with_reducible rfl)
        (try simp only [Act.put, List.setIfInBounds_toArray, List.set_cons_zero, List.set_cons_succ])
        refine' wpAnyH_take (i := 36) (oi := ?oiT36b) (v := ?vT36b) ?hiT36b (by kernel_rfl) (by kernel_rfl) (by kernel_rfl) ?hQT36b ?hyT36b hS ?restT36b
        case hiT36b =>
          simp only [List.getElem?_toArray, List.getElem?_cons_succ, List.getElem?_cons_zero]
          exact rfl
        case hQT36b => exact fun _ _ _ h => h
        case hyT36b =>
          refine Or.inl ⟨by rfl, ?_⟩
          intro w hSw
          (try dsimp only at hSw)
          obtain ⟨s0, s1, _⟩ := hSw
          go_simp
          (try with_reducible rfl)
        (try simp only [Act.put, List.setIfInBounds_toArray, List.set_cons_zero, List.set_cons_succ])
        refine wpAnyH_done (by kernel_rfl) ?_ _
        have hB2 := below_then hB hS.2.2
        go_wp2
        go_roundw
        case rel => exact ⟨k + 1, by omega, by go_num, hB2⟩
        case measure => simp [intOf]; omega
    · obtain rfl : k = ss.length := by omega
      have CM := Lib.hid (fun (W : World) a1 c1 (h1 : Labs W.heap.size W (.slice a1 xa.length c1) xa) (h2 : Labs W.heap.size W (.slice aa xa.length ca) xa) => compare_any a1 aa xa.length c1 xa.length ca xa xa hxl hxl W h1 h2)
      rw [cmp_self] at CM
      have g1 : ByteArray.toList ⟨gs.toArray⟩ = gs := by rw [ByteArray.toList_eq]
      clear LB
      go_wp2_with fail
      refine (WC.out _ _ _ LA).mono ?_
      rintro e u1 ⟨vx, rfl, hr, hb⟩
      have LX := labs_of_row hr
      have LA := labs_later LA hb
      have B := below_then B hb
      clear hr hb
      obtain ⟨ax, cx, rfl⟩ := slice_of LX
      go_wp2_with fail
      refine (CM.out _ _ _ LX LA).mono ?_
      rintro e u2 ⟨rfl, hb⟩
      have B := below_then B hb
      clear hb LX LA
      go_wp2_with fail
      refine (GS.out _ B).mono ?_
      rintro e u3 ⟨rfl, hb⟩
      have B := below_then B hb
      clear hb
      go_wp2_with fail
      go_ret
      refine ⟨?_, B⟩
      show Ending.returned (.bool (gs.isEmpty == ((xa.length : Int) == (ss.length : Int) + 1))) = _
      have eg : gs.isEmpty = (gs == []) := by cases gs <;> rfl
      rw [eg, FIN.out]
theorem with_law (a : Option Addr) (len cap : Nat) (zs : List Lab) (hlen : zs.length ≤ 9223372036854775807) (hbig : ∀ x ∈ zs, x.1.length ≤ 9223372036854775807 ∧ x.2.length ≤ 9223372036854775807) (n v : List UInt8) (hnl : n.length ≤ 9223372036854775807) (hvl : v.length ≤ 9223372036854775807) (w : World)
    (hI : LabsG w.heap.size w (.slice a len cap) zs) :
    Calls Tryd.prog 5 #[.slice a len cap, .string ⟨n.toArray⟩, .string ⟨v.toArray⟩] w fun e w' => e = .returned (.bool true) ∧ Below w.heap.size w w' := by
  have K := Lib.hid (known_any w)
  cases hf : fewR zs
  · have LT := Lib.hid (fun (w1 : World) (hb : Below w.heap.size w w1) => good_no a len cap zs hlen hbig hf w1.heap.size w1 (labsG_later hI hb))
    clear hI hbig
    go_enter Tryd.func5, Tryd.ntmps5
    go_wp2_with fail
    refine (K.out).mono ?_
    rintro e w1 ⟨rfl, hb1⟩
    go_wp2_with fail
    refine (LT.out _ hb1).mono ?_
    rintro e w2 ⟨rfl, rfl⟩
    go_wp2
    go_ret
    exact ⟨rfl, hb1⟩
  obtain ⟨ss, rfl, hss⟩ := few_short hf
  have hI := hI.toS
  obtain rfl : len = ss.length := hI.len
  have GD := Lib.hid (fun (w1 : World) (hb : Below w.heap.size w w1) => good_any a ss.length cap ss (by omega) hf w1 (labs_later hI hb))
  have NM := Lib.hid (fun W => rname_any n hnl W)
  have VL := Lib.hid (fun W => rvalue_any v hvl W)
  by_cases hc : checkR ss = 0
  · have hc0 : (checkR ss == 0) = true := by rw [beq_iff_eq]; exact hc
    rw [hc0] at GD
    cases hn : nameR n
    · rw [hn] at NM
      clear hI hbig hc hc0
      go_enter Tryd.func5, Tryd.ntmps5
      go_wp2_with fail
      refine (K.out).mono ?_
      rintro e w1 ⟨rfl, hb1⟩
      go_wp2_with fail
      refine (GD.out _ hb1).mono ?_
      rintro e w2 ⟨rfl, hb2⟩
      have hb := below_then hb1 hb2
      clear hb2
      go_wp2_with fail
      refine (NM.out _).mono ?_
      rintro e w3 ⟨rfl, rfl⟩
      go_wp2
      go_ret
      exact ⟨rfl, hb⟩
    cases hv : valueR v
    · rw [hn] at NM
      rw [hv] at VL
      clear hI hbig hc hc0
      go_enter Tryd.func5, Tryd.ntmps5
      go_wp2_with fail
      refine (K.out).mono ?_
      rintro e w1 ⟨rfl, hb1⟩
      go_wp2_with fail
      refine (GD.out _ hb1).mono ?_
      rintro e w2 ⟨rfl, hb2⟩
      have hb := below_then hb1 hb2
      clear hb2
      go_wp2_with fail
      refine (NM.out _).mono ?_
      rintro e w3 ⟨rfl, rfl⟩
      go_wp2_with fail
      refine (VL.out _).mono ?_
      rintro e w3 ⟨rfl, rfl⟩
      go_wp2
      go_ret
      exact ⟨rfl, hb⟩
    by_cases h16 : 16 ≤ ss.length
    · rw [hn] at NM
      rw [hv] at VL
      have hz : (16 : Int) ≤ (ss.length : Int) := by omega
      clear hI hbig hc hc0
      go_enter Tryd.func5, Tryd.ntmps5
      go_wp2_with fail
      refine (K.out).mono ?_
      rintro e w1 ⟨rfl, hb1⟩
      go_wp2_with fail
      refine (GD.out _ hb1).mono ?_
      rintro e w2 ⟨rfl, hb2⟩
      have hb := below_then hb1 hb2
      clear hb2
      go_wp2_with fail
      refine (NM.out _).mono ?_
      rintro e w3 ⟨rfl, rfl⟩
      go_wp2_with fail
      refine (VL.out _).mono ?_
      rintro e w3 ⟨rfl, rfl⟩
      go_wp2
      go_ret
      exact ⟨rfl, hb⟩
    · have hsh : Short (n, v) := by
        unfold Short
        have h1 : n.length ≤ 16 := by
          cases n with
          | nil => simp
          | cons c t =>
            unfold nameR at hn
            rw [Bool.and_eq_true, Bool.and_eq_true, decide_eq_true_eq] at hn
            exact hn.1.1
        have h2 : v.length ≤ 64 := by
          unfold valueR at hv
          rw [Bool.and_eq_true, Bool.and_eq_true, decide_eq_true_eq] at hv
          exact hv.1.2
        dsimp only
        omega
      exact with_good a ss.length cap ss n v hsh hf hc (by omega) hn hv w hI
  · have hc0 : (checkR ss == 0) = false := by rw [beq_eq_false_iff_ne]; exact hc
    rw [hc0] at GD
    clear hc hc0 hI hbig
    go_enter Tryd.func5, Tryd.ntmps5
    go_wp2_with fail
    refine (K.out).mono ?_
    rintro e w1 ⟨rfl, hb1⟩
    go_wp2_with fail
    refine (GD.out _ hb1).mono ?_
    rintro e w2 ⟨rfl, hb2⟩
    go_wp2
    go_ret
    exact ⟨rfl, hb1.trans (hb2.mono hb1.size)⟩
end Go.Proofs.YtmcmgmpgmbljiaaDoor
