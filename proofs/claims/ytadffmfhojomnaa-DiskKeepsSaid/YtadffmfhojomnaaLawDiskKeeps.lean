/- belfrylaw10.DiskKeeps walked: true, whatever came in. -/
import Derived.Test.YtadffmfhojomnaaDkL
namespace Go.Proofs.Ytadffmfhojomnaa
open Go Go.Proofs Go.RowKit Go.Shelf
set_option maxRecDepth 100000
attribute [local go_sem] Oper.semAt_some
namespace LawDiskKeeps
def LoopAt (w : World) (b : Nat) (A : List UInt8) (R : List (Value × List UInt8)) (k : Nat) (wr : World) : Prop :=
  (∃ v, DkAt w.heap.size wr b v (lpD A (flat (R.take k)) k)) ∧ Below w.heap.size w wr ∧ ∀ x ∈ R.take k, x.2.length ≤ 100
set_option maxHeartbeats 8000000 in
theorem main (sa sb : Value) (A : List UInt8) (R : List (Value × List UInt8)) (keep : Int) (w : World) (hA : Bys w sa A) (hB : Rws w sb R) (hAl : A.length ≤ 200) (hRl : R.length ≤ 20) :
    Calls Try.prog 3 #[sa, sb, .int .i64 keep] w fun e w' => e = .returned (.bool true) ∧ Below w.heap.size w w' := by
  obtain ⟨aa, ac, rfl⟩ : ∃ a c, sa = .slice a A.length c := by
    rcases hA with ⟨⟨a, c, rfl⟩, rfl⟩ | ⟨b, off, cap, rfl, _⟩
    · exact ⟨_, _, rfl⟩
    · exact ⟨_, _, rfl⟩
  obtain ⟨ba, bc, rfl⟩ : ∃ a c, sb = .slice a R.length c := by
    rcases hB with ⟨⟨a, c, rfl⟩, rfl⟩ | ⟨b, off, cap, rfl, _⟩
    · exact ⟨_, _, rfl⟩
    · exact ⟨_, _, rfl⟩
  have HA := Lib.hid hA
  have HB := Lib.hid hB
  have HK := Lib.hid (known_any w)
  clear hA hB
  refine (callsIn_wide (n := 9)).1 ?_
  refine callsIn_of_wp Try.func3 rfl trivial ?_ rfl
  simp only [Try.ntmps3, List.size_toArray, List.length_cons, List.length_nil, Nat.reduceAdd, Nat.reduceSub, Array.replicate_succ, Array.replicate_zero, List.push_toArray, List.append_toArray, List.nil_append, List.cons_append]
  gi_wp2_with fail
  refine ⟨trivial, (callsIn_wide.2 HK.out).mono ?_⟩
  rintro e w1 ⟨rfl, b1⟩
  have HN := Lib.hid (new_any w1)
  have HB1 := Lib.hid b1
  clear HK b1
  have q1 : decide ((200 : Int) < (A.length : Int)) = false := by simp; omega
  have q2 : decide ((20 : Int) < (R.length : Int)) = false := by simp; omega
  gi_wp2_with fail
  refine ⟨trivial, (callsIn_wide.2 HN.out).mono ?_⟩
  rintro e w2 ⟨b, v2, rfl, D2, g2⟩
  have D2 := D2.mono HB1.out.size
  have B2 := HB1.out.trans (grownBy_below g2 HB1.out.size (fun k e => by cases e))
  have hA2 := HA.out.below B2
  have ap2 : A ≠ [] → ∀ g, (Value.slice aa A.length ac).ownBlock = some g → v2.ownBlock ≠ some g := fun hz g e q => by
    have h1 := HA.out.lt hz g e
    have h2 := (World.ownsRow.lt D2.own g q).1
    omega
  have h3 := append_any w.heap.size b v2 _ (Dk.of []) A w2 D2 hA2 ap2 (by decide) (by simp [Dk.of]; omega)
  rw [lpA_is A] at h3
  have H3 := Lib.hid h3
  have C2 := Lib.hid D2
  have E2 := Lib.hid B2
  clear h3 D2 B2 hA2 ap2 g2 HN
  gi_wp2_with fail
  refine ⟨trivial, (callsIn_wide.2 H3.out).mono ?_⟩
  rintro e w3 ⟨rfl, v3, D3, T3⟩
  have B3 := E2.out.trans (C2.out.below T3)
  have h5 := sync_any w.heap.size b v3 (lpA A) w3 D3 (by show (1 : Int) < _; decide)
  rw [lpD_0 A] at h5
  have H5 := Lib.hid h5
  have C3 := Lib.hid D3
  have E3 := Lib.hid B3
  clear h5 D3 B3 T3 C2 E2 H3
  gi_wp2_with fail
  refine ⟨trivial, (callsIn_wide.2 H5.out).mono ?_⟩
  rintro e w4 ⟨rfl, v4, D4, T4⟩
  have L0 : LoopAt w b A R 0 w4 := ⟨⟨v4, D4⟩, E3.out.trans (C3.out.below T4), fun x hx => by simp at hx⟩
  clear D4 T4 C3 E3 H5 HB1 q1 q2
  gi_wp2
  gi_loopw [10, 11] (fun tl i wr => ∃ k : Nat, k ≤ R.length ∧ i = .int .i64 (k : Int) ∧ tl = .string ⟨(flat (R.take k)).toArray⟩ ∧ LoopAt w b A R k wr)
    (fun _ i _ => R.length - (intOf i).toNat)
  case atStart => exact ⟨0, Nat.zero_le _, rfl, rfl, L0⟩
  case round =>
    obtain ⟨k, hk, rfl, rfl, hL⟩ := hrel
    by_cases hlt : k < R.length
    · obtain ⟨x, hx⟩ : ∃ x, R[k]? = some x := ⟨_, List.getElem?_eq_getElem hlt⟩
      obtain ⟨hn1, he1⟩ := List.getElem?_eq_some_iff.1 hx
      have htk : R.take (k + 1) = R.take k ++ [x] := by rw [List.take_succ_eq_append_getElem hn1, he1]
      obtain ⟨⟨v, D⟩, BL, hS⟩ := hL
      obtain ⟨g, off, cap, hq, hcx, hbx⟩ : ∃ g off cap, ba = some ⟨g, off, none⟩ ∧ w.cell? ⟨g, off + k, none⟩ = some x.1 ∧ Bys w x.1 x.2 := by
        rcases HB.out with ⟨_, q⟩ | ⟨g, off, cap, q, hc, hb⟩
        · rw [q] at hlt; simp at hlt
        · injection q with q1
          exact ⟨g, off, cap, q1, hc k x hx, hb x (List.mem_of_getElem? hx)⟩
      subst hq
      obtain ⟨xv, z⟩ := x
      dsimp only at hcx hbx
      obtain ⟨xa, xc, rfl⟩ : ∃ a c, xv = .slice a z.length c := by
        rcases hbx with ⟨⟨a, c, rfl⟩, rfl⟩ | ⟨b, off, cap, rfl, _⟩
        · exact ⟨_, _, rfl⟩
        · exact ⟨_, _, rfl⟩
      have hcr : wr.cell? ⟨g, off + k, none⟩ = some (.slice xa z.length xc) := (BL.cell (p := ⟨g, off + k, none⟩) (World.block_lt_of_cell? w ⟨g, off + k, none⟩ hcx)).trans hcx
      have i1 : (0 : Int) ≤ (k : Int) := by omega
      have i2 : (k : Int) < (R.length : Int) := by omega
      have TK := Lib.hid htk
      have HD := Lib.hid D
      have HBL := Lib.hid BL
      have HS := Lib.hid hS
      have HBX := Lib.hid hbx
      have HCX := Lib.hid hcx
      clear htk D BL hS hbx hcx hx he1 hn1
      by_cases hz : z.length ≤ 100
      · have z1 : decide ((100 : Int) < (z.length : Int)) = false := by simp; omega
        have hbr := HBX.out.below HBL.out
        have ap : z ≠ [] → ∀ g, (Value.slice xa z.length xc).ownBlock = some g → v.ownBlock ≠ some g := fun hz g e q => by
          have h1 := HBX.out.lt hz g e
          have h2 := (World.ownsRow.lt HD.out.own g q).1
          omega
        have hfl := flat_len 100 (R.take k) HS.out
        rw [List.length_take, Nat.min_eq_left hk] at hfl
        have h6 := append_any w.heap.size b v _ (lpD A (flat (R.take k)) k) z wr HD.out hbr ap (by show 2 + (k : Int) < _; omega) (by show (A ++ flat (R.take k)).length + _ ≤ _; rw [List.length_append]; omega)
        rw [lpD_app] at h6
        have H6 := Lib.hid h6
        clear h6 ap hbr
        obtain ⟨T, hT⟩ : ∃ T, flat (R.take k) = T := ⟨_, rfl⟩
        rw [hT] at H6 hfl HD
        rw [hT]
        have HT := Lib.hid hT
        clear hT
        gi_wp2_with fail
        refine ⟨trivial, (callsIn_wide.2 H6.out).mono ?_⟩
        rintro e w5 ⟨rfl, v5, D5, T5⟩
        have B5 := HBL.out.trans (HD.out.below T5)
        have cv := text_of_bys (HBX.out.below B5)
        have hcr5 : w5.cell? ⟨g, off + k, none⟩ = some (.slice xa z.length xc) := (B5.cell (p := ⟨g, off + k, none⟩) (World.block_lt_of_cell? w ⟨g, off + k, none⟩ HCX.out)).trans HCX.out
        have s1 : T.length + z.length ≤ 9223372036854775807 := by omega
        have s2 : ¬ 9223372036854775807 < T.length + z.length := by omega
        have s3 : ((⟨T.toArray⟩ : ByteArray) ++ ⟨z.toArray⟩) = ⟨(T ++ z).toArray⟩ := bapp T z
        have H5 := Lib.hid D5
        have E5 := Lib.hid B5
        clear D5 B5 T5 H6
        gi_wp2
        go_roundw
        case rel =>
          have ef : flat (R.take (k + 1)) = T ++ z := by rw [TK.out, flat_snoc, HT.out]
          refine ⟨k + 1, by omega, by simp, by rw [ef], ⟨v5, by rw [ef]; exact H5.out⟩, E5.out, fun y hy => ?_⟩
          rw [TK.out] at hy
          rcases List.mem_append.1 hy with q | q
          · exact HS.out y q
          · obtain rfl := List.mem_singleton.1 q
            exact hz
        case measure => simp [intOf]; omega
      · have z1 : decide ((100 : Int) < (z.length : Int)) = true := by simp; omega
        gi_wp2_with fail
        refine ⟨trivial, ?_⟩
        gi_wp2
        go_ret
        exact ⟨rfl, HBL.out⟩
    · obtain rfl : k = R.length := by omega
      rw [List.take_length]
      obtain ⟨⟨v, D⟩, BL, hS⟩ := hL
      rw [List.take_length] at D hS
      have hfl := flat_len 100 R hS
      obtain ⟨T, hT⟩ : ∃ T, flat R = T := ⟨_, rfl⟩
      rw [hT] at D hfl ⊢
      have H7 := Lib.hid (twin_any w.heap.size b v _ wr D)
      have HD := Lib.hid D
      have HBL := Lib.hid BL
      clear hT D BL hS
      gi_wp2_with fail
      refine ⟨trivial, (callsIn_wide.2 H7.out).mono ?_⟩
      rintro e w5 ⟨bt, vt, rfl, D5, g5⟩
      have K5 := Two.made HD.out g5 D5
      have B5 := HBL.out.trans (grownBy_below g5 HBL.out.size (fun k e => by cases e))
      have h8 := cut_any w.heap.size b v _ keep w5 K5.one
      rw [lpD_cut] at h8
      obtain ⟨kk, hkk⟩ : ∃ kk, min (max keep 0).toNat T.length = kk := ⟨_, rfl⟩
      rw [hkk] at h8
      have H8 := Lib.hid h8
      have C5 := Lib.hid K5
      have E5 := Lib.hid B5
      have HKK := Lib.hid hkk
      clear h8 hkk K5 B5 D5 g5 H7
      gi_wp2_with fail
      refine ⟨trivial, (callsIn_wide.2 H8.out).mono ?_⟩
      rintro e w6 ⟨rfl, v6, D6, T6, _⟩
      have K6 := C5.out.op T6 D6
      have B6 := E5.out.trans (C5.out.one.below T6)
      have hA6 := HA.out.below B6
      have cvA := text_of_bys hA6
      have C6 := Lib.hid K6
      have E6 := Lib.hid B6
      clear K6 B6 T6 D6 hA6 C5 E5 H8
      gi_wp2_with fail
      refine region_anyM (S := fun u => (convert 22 9 (.slice aa A.length ac)).run Try.prog u = .ok (.string ⟨A.toArray⟩) u) 41 (by kernel_rfl) (fun hS => ?_) (text_of_bys (HA.out.below E6.out.drew))
      refine anyM_d 0 [0, 41] hS ?_
      refine anyM_d 1 [1, 41] hS ?_
      refine anyM_d 2 [2, 41] hS ?_
      refine anyM_d 3 [3, 41] hS ?_
      refine anyM_d 4 [4, 41] hS ?_
      refine anyM_d 5 [5, 41] hS ?_
      refine anyM_d 8 [8, 41] hS ?_
      refine anyM_d 9 [9, 41] (v := .string ⟨A.toArray⟩) hS ?_
      refine anyM_d 10 [10, 41] hS ?_
      refine anyM_d 11 [11, 41] hS ?_
      refine anyM_o 6 (fun K hK => ?_)
      go_simp
      refine ⟨trivial, ?_⟩
      refine (callsIn_wide.2 (bytes_any w.heap.size b v6 _ w6.drew (C6.out.one.drewN 1))).mono ?_
      rintro e w7 ⟨v7, rfl, ⟨a7, c7, rfl⟩, own7, g7, _⟩
      have G7 := grow_nil g7
      have K7 := (C6.out.drewN 1).grow G7
      have B7 := E6.out.drew.trans (grownBy_below G7 E6.out.drew.size (fun k e => by cases e))
      have eX : (A ++ T.take kk).length = A.length + (T.take kk).length := List.length_append
      obtain ⟨X, hX⟩ : ∃ X, A ++ T.take kk = X := ⟨_, rfl⟩
      have own7' : w7.ownsRow w6.drew.heap.size 5 1 (.slice a7 X.length c7) X.length (Lib.byteCells X) := by rw [← hX]; exact own7
      have cvX := text_of_row own7'
      have cv7 := text_of_bys (HA.out.below B7)
      have C7 := Lib.hid K7
      have HO7 := Lib.hid own7'
      have E7 := Lib.hid B7
      have HX := Lib.hid hX
      clear K7 B7 own7 own7' g7 G7 hS cvA C6 E6
      dsimp only
      rw [hX]
      clear hX eX
      refine hK _ _ cv7 ?_
      clear hK K
      refine anyM_strong (S' := fun u => (convert 22 9 (.slice aa A.length ac)).run Try.prog u = .ok (.string ⟨A.toArray⟩) u ∧ (convert 22 9 (.slice a7 X.length c7)).run Try.prog u = .ok (.string ⟨X.toArray⟩) u) (fun u h => h.1) _ _ _ _ ?_
      have hS7 := And.intro cv7 cvX
      refine anyM_d 7 [7, 41] (v := .string ⟨X.toArray⟩) hS7 ?_
      obtain ⟨Y, hY⟩ : ∃ Y, T.take kk = Y := ⟨_, rfl⟩
      have hYl : Y.length ≤ T.length := by rw [← hY, List.length_take]; omega
      have s1 : A.length + Y.length ≤ 9223372036854775807 := by omega
      have s2 : ¬ 9223372036854775807 < A.length + Y.length := by omega
      have s3 : ((⟨A.toArray⟩ : ByteArray) ++ ⟨Y.toArray⟩) = ⟨X.toArray⟩ := by rw [bapp, ← hY, HX.out]
      have h12 := cutS_any T keep w7 (by omega)
      rw [HKK.out, hY] at h12
      have H12 := Lib.hid h12
      clear h12 hY
      refine anyM_o 12 (fun K hK => ?_)
      go_simp
      refine ⟨trivial, ?_⟩
      refine (callsIn_wide.2 H12.out).mono ?_
      rintro e w7' ⟨rfl, rfl⟩
      dsimp only
      refine hK _ _ hS7 ?_
      clear hK K H12
      refine anyM_d 13 [13, 41] (v := .string ⟨X.toArray⟩) hS7 ?_
      refine anyM_d 14 [14, 41] (v := .bool true) hS7 ?_
      refine anyM_d 15 [15, 41] hS7 ?_
      refine anyM_d 16 [16, 41] hS7 ?_
      refine anyM_d 17 [17, 41] hS7 ?_
      have h18 : Hid (Calls Try.prog 12 #[.pointer (some ⟨b, 0, none⟩)] w7 fun e w' => e = .returned (.int .i64 0) ∧ ∃ q, w' = w7.drewN q) := by
        have h := tail_any w.heap.size b v6 _ w7 C7.out.one
        have e : ((A ++ T.take kk).length - (A.length + kk) : Nat) = 0 := by rw [List.length_append, List.length_take]; omega
        dsimp only at h
        rw [e] at h
        exact h
      refine anyM_o 18 (fun K hK => ?_)
      go_simp
      refine ⟨trivial, ?_⟩
      refine (callsIn_wide.2 h18.out).mono ?_
      rintro e w8 ⟨rfl, q8, rfl⟩
      have K8 := C7.out.drewN q8
      have B8 : Below w.heap.size w (w7.drewN q8) := E7.out.trans ⟨rfl, rfl, rfl, Nat.le_refl _, fun _ _ => rfl⟩
      have O8 : (w7.drewN q8).ownsRow w6.drew.heap.size 5 1 (.slice a7 X.length c7) X.length (Lib.byteCells X) := HO7.out
      have hS8 := And.intro (text_of_bys (HA.out.below B8)) (text_of_row O8)
      have HO8 := Lib.hid O8
      generalize w7.drewN q8 = w8 at *
      have C8 := Lib.hid K8
      have E8 := Lib.hid B8
      clear K8 B8 O8 hS7 cvX cv7 C7 E7 HO7 h18
      dsimp only
      refine hK _ _ hS8 ?_
      clear hK K
      refine anyM_d 19 [19, 41] hS8 ?_
      refine anyM_d 20 [20, 41] hS8 ?_
      refine anyM_d 21 [21, 41] hS8 ?_
      refine anyM_d 22 [22, 41] hS8 ?_
      have h23 : Hid (Calls Try.prog 13 #[.pointer (some ⟨b, 0, none⟩)] w8 fun e w' => e = .returned (.bool true) ∧ w8 = w') := off_any w.heap.size b v6 _ w8 C8.out.one
      have h31 : Hid (Calls Try.prog 13 #[.pointer (some ⟨bt, 0, none⟩)] w8 fun e w' => e = .returned (.bool false) ∧ w8 = w') := off_any _ bt vt _ w8 C8.out.two
      have h36 : Hid (Calls Try.prog 12 #[.pointer (some ⟨bt, 0, none⟩)] w8 fun e w' => e = .returned (.int .i64 (T.length : Int)) ∧ ∃ q, w' = w8.drewN q) := by
        have h := tail_any _ bt vt _ w8 C8.out.two
        have e : ((lpD A T R.length).row.length - (lpD A T R.length).kept : Nat) = T.length := by show (A ++ T).length - A.length = _; rw [List.length_append]; omega
        rw [e] at h
        exact h
      refine anyM_o 23 (fun K hK => ?_)
      go_simp
      refine ⟨trivial, ?_⟩
      refine (callsIn_wide.2 h23.out).mono ?_
      rintro e w8' ⟨rfl, rfl⟩
      dsimp only
      refine hK _ _ hS8 ?_
      clear hK K h23
      refine anyM_d 24 [24, 41] hS8 ?_
      refine anyM_d 25 [25, 41] hS8 ?_
      refine anyM_d 26 [26, 41] hS8 ?_
      refine anyM_d 27 [27, 41] hS8 ?_
      refine anyM_d 28 [28, 41] hS8 ?_
      refine anyM_d 29 [29, 41] hS8 ?_
      refine anyM_d 30 [30, 41] hS8 ?_
      refine anyM_o 31 (fun K hK => ?_)
      go_simp
      refine ⟨trivial, ?_⟩
      refine (callsIn_wide.2 h31.out).mono ?_
      rintro e w8' ⟨rfl, rfl⟩
      dsimp only
      refine hK _ _ hS8 ?_
      clear hK K h31
      refine anyM_d 32 [32, 41] hS8 ?_
      refine anyM_d 33 [33, 41] hS8 ?_
      refine anyM_d 34 [34, 41] hS8 ?_
      refine anyM_d 35 [35, 41] hS8 ?_
      refine anyM_d 37 [37, 41] hS8 ?_
      refine anyM_d 38 [38, 41] hS8 ?_
      refine anyM_o 36 (fun K hK => ?_)
      go_simp
      refine ⟨trivial, ?_⟩
      refine (callsIn_wide.2 h36.out).mono ?_
      rintro e w9 ⟨rfl, q9, rfl⟩
      have B9 : Below w.heap.size w (w8.drewN q9) := E8.out.trans ⟨rfl, rfl, rfl, Nat.le_refl _, fun _ _ => rfl⟩
      have O9 : (w8.drewN q9).ownsRow w6.drew.heap.size 5 1 (.slice a7 X.length c7) X.length (Lib.byteCells X) := HO8.out
      have hS9 := And.intro (text_of_bys (HA.out.below B9)) (text_of_row O9)
      generalize w8.drewN q9 = w9 at *
      have E9 := Lib.hid B9
      clear B9 O9 hS8 C8 E8 HO8 h36
      dsimp only
      refine hK _ _ hS9 ?_
      clear hK K
      refine anyM_d 39 [39, 41] (v := .bool true) hS9 ?_
      refine anyM_d 40 [40, 41] hS9 ?_
      refine anyM_l (fun K hK => ?_)
      go_simp
      refine hK _ _ ?_
      clear hK K hS9
      refine anyIn_done (by kernel_rfl) ?_ _
      gi_wp2
      go_ret
      exact ⟨rfl, E9.out⟩
end LawDiskKeeps
end Go.Proofs.Ytadffmfhojomnaa
