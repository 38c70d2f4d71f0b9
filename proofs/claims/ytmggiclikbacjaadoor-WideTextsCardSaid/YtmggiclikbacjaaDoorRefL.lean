/- The reference's WideParse, walked. -/
import Derived.Test.YtmggiclikbacjaaDoorRefK
namespace Go.Proofs.YtmggiclikbacjaaDoor
open Go Go.Proofs Go.RowKit
set_option maxRecDepth 100000
attribute [local go_sem] cell_set
theorem wparse_pos_no (s : ByteArray) (d : List UInt8) (hl : d.length ≤ 1000) (hud : s.data.toList = d) (hn : ∀ (h : 0 < s.size), s[0] ≠ 45) (hq : (isDec d && !(false && (d == [48]))) = false) (W : World) :
    Calls Tryd.prog 23 #[.string s] W fun e w' => e = .returned (.tuple #[.agg #[.int .i64 0, .int .u64 0], .int .i64 2]) ∧ Below W.heap.size W w' := by
  have FM := Lib.hid (fun W => form_pos s d hl false hud hn hq W)
  clear hq hud
  go_enter Tryd.func23, Tryd.ntmps23
  go_wp2_with fail
  refine (FM.out _).mono ?_
  rintro e w0 ⟨rfl, rfl⟩
  go_wp2
  refine bodyPost_ret (by simp [results, Tryd.results23, go_sem]; try rfl) rfl ?_
  exact ⟨rfl, by go_grown⟩
theorem wparse_pos_long (s : ByteArray) (d : List UInt8) (hl : d.length ≤ 1000) (hud : s.data.toList = d) (hn : ∀ (h : 0 < s.size), s[0] ≠ 45) (hq : (isDec d && !(false && (d == [48]))) = true) (h39 : 39 < d.length) (W : World) :
    Calls Tryd.prog 23 #[.string s] W fun e w' => e = .returned (.tuple #[.agg #[.int .i64 0, .int .u64 0], .int .i64 7]) ∧ Below W.heap.size W w' := by
  have UD := Lib.hid hud
  have US := Lib.hid (ba_size s d hud)
  have FM := Lib.hid (fun W => form_pos s d hl true hud hn hq W)
  have hne : d ≠ [] := by intro e; subst e; cases hq
  have up : 0 < s.size := by rw [US.out]; exact List.length_pos_iff.2 hne
  have up2 : (0 : Int) < (s.size : Int) := by omega
  obtain ⟨c0, hc0⟩ : ∃ c0, s[0] = c0 := ⟨_, rfl⟩
  have c45 : ((c0.toNat : Int) == 45) = false := by
    rw [beq_eq_false_iff_ne]; intro e; exact hn up (by rw [hc0]; exact UInt8.toNat_inj.1 (by simpa using (by omega : c0.toNat = 45)))
  clear hne hn
  have g1 : (39 : Int) < (s.size : Int) := by have := US.out; omega
  have g2 : 39 < s.size := by omega
  clear hq hud
  go_enter Tryd.func23, Tryd.ntmps23
  go_wp2_with fail
  refine (FM.out _).mono ?_
  rintro e w0 ⟨rfl, rfl⟩
  go_wp2
  refine bodyPost_ret (by simp [results, Tryd.results23, go_sem]; try rfl) rfl ?_
  exact ⟨rfl, by go_grown⟩
set_option maxHeartbeats 4000000 in
theorem wparse_pos_yes (s : ByteArray) (d : List UInt8) (hl : d.length ≤ 1000) (hud : s.data.toList = d) (hn : ∀ (h : 0 < s.size), s[0] ≠ 45) (hq : (isDec d && !(false && (d == [48]))) = true) (h39 : d.length ≤ 39) (h l e0 : Int) (sy : Says false d h l e0) (W : World) :
    Calls Tryd.prog 23 #[.string s] W fun e w' => e = .returned (.tuple #[.agg #[.int .i64 h, .int .u64 l], .int .i64 e0]) ∧ Below W.heap.size W w' := by
  have UD := Lib.hid hud
  have US := Lib.hid (ba_size s d hud)
  have FM := Lib.hid (fun W => form_pos s d hl true hud hn hq W)
  have hne : d ≠ [] := by intro e; subst e; cases hq
  have up : 0 < s.size := by rw [US.out]; exact List.length_pos_iff.2 hne
  have up2 : (0 : Int) < (s.size : Int) := by omega
  obtain ⟨c0, hc0⟩ : ∃ c0, s[0] = c0 := ⟨_, rfl⟩
  have c45 : ((c0.toNat : Int) == 45) = false := by
    rw [beq_eq_false_iff_ne]; intro e; exact hn up (by rw [hc0]; exact UInt8.toNat_inj.1 (by simpa using (by omega : c0.toNat = 45)))
  clear hne hn
  have S := Lib.hid sy
  have DG := Lib.hid (isDec_digits (d := d) (by revert hq; cases isDec d <;> simp))
  have g1 : ¬ (39 : Int) < (s.size : Int) := by have := US.out; omega
  have g2 : ¬ 39 < s.size := by omega
  clear hq hud sy
  go_enter Tryd.func23, Tryd.ntmps23
  go_wp2_with fail
  refine (FM.out _).mono ?_
  rintro e w0 ⟨rfl, rfl⟩
  go_wp2
  go_loop [5, 6, 7] (fun a b c => ∃ k hi lo : Nat, k ≤ d.length ∧ a = .int .u64 (hi : Int) ∧ b = .int .u64 (lo : Int) ∧ c = .int .i64 (k : Int) ∧ hi < 18446744073709551616 ∧ lo < 18446744073709551616 ∧ Hid (hi * 18446744073709551616 + lo = valD (d.take k))) (fun _ _ c => d.length - (intOf c).toNat)
  case atStart => exact ⟨0, 0, 0, Nat.zero_le _, rfl, rfl, rfl, by omega, by omega, by unfold Hid; simp [valD]⟩
  case round =>
    obtain ⟨k, hi, lo, hk, rfl, rfl, rfl, hhi, hlo, hp⟩ := hrel
    by_cases hlt : k < d.length
    · have hku : k < s.size := by rw [US.out]; exact hlt
      have hkn : (k : Int) < (s.size : Int) := by omega
      obtain ⟨c, hc⟩ : ∃ c, d[k] = c := ⟨_, rfl⟩
      have hg : s[k] = c := by rw [ba_get s d UD.out k hku hlt, hc]
      have dc := DG.out c (by rw [← hc]; exact List.getElem_mem hlt)
      obtain ⟨dg, hdg⟩ : ∃ dg : Nat, (c.toNat : Int) - 48 = (dg : Int) := ⟨c.toNat - 48, by omega⟩
      have hv : (hi * 18446744073709551616 + lo) * 10 + dg = valD (d.take (k + 1)) := by
        rw [take_snoc_d d k hlt, valD_snoc, hc, hp.out, show c.toNat - 48 = dg by omega]
      have c1 : (48 : Int) ≤ (c.toNat : Int) := by omega
      have c2 : (c.toNat : Int) ≤ 57 := by omega
      have HA := Lib.hid (fun W => half_any lo 10 hlo (by omega) W)
      have HB := Lib.hid (fun W => half_any hi 10 hhi (by omega) W)
      obtain ⟨h', l', g', m', q1, q2, q3, q4, st⟩ := pstep hi lo dg _ hhi hlo (by omega) rfl
      rw [hv] at st
      rw [q1, q2] at HA
      rw [q3, q4] at HB
      have HV : Hid (valD (d.take (k + 1)) = valD (d.take (k + 1))) := rfl
      clear hv q1 q2 q3 q4 hhi hlo hc dc hp
      rcases st with ⟨s1, ov⟩ | ⟨s1, up, s2, ⟨s3, ov⟩ | ⟨s3, lo', s4, ⟨s5, k3, b1, b2⟩ | ⟨s5, up', s6, ⟨s7, ov⟩ | ⟨s7, k3, b1, b2⟩⟩⟩⟩
      all_goals
        first | (have OV := Lib.hid ov; clear ov) | (have H3 := Lib.hid k3; have B1 := Lib.hid b1; have B2 := Lib.hid b2; clear k3 b1 b2)
        go_wp2_with fail
        refine (HA.out _).mono ?_
        rintro e w0 ⟨rfl, rfl⟩
        go_wp2_with fail
        refine (HB.out _).mono ?_
        rintro e w0 ⟨rfl, rfl⟩
        go_wp2
      · refine bodyPost_ret (by simp [results, Tryd.results23, go_sem]; try rfl) rfl ?_
        obtain ⟨rfl, rfl, rfl⟩ := S.out.over (Nat.le_trans OV.out (valD_mono d (k + 1)))
        exact ⟨rfl, by go_grown⟩
      · refine bodyPost_ret (by simp [results, Tryd.results23, go_sem]; try rfl) rfl ?_
        obtain ⟨rfl, rfl, rfl⟩ := S.out.over (Nat.le_trans OV.out (valD_mono d (k + 1)))
        exact ⟨rfl, by go_grown⟩
      · go_round
        case rel => exact ⟨k + 1, up, lo', by omega, rfl, rfl, by go_num, B1.out, B2.out, H3.out⟩
        case measure => simp [intOf]; omega
      · refine bodyPost_ret (by simp [results, Tryd.results23, go_sem]; try rfl) rfl ?_
        obtain ⟨rfl, rfl, rfl⟩ := S.out.over (Nat.le_trans OV.out (valD_mono d (k + 1)))
        exact ⟨rfl, by go_grown⟩
      · go_round
        case rel => exact ⟨k + 1, up', lo', by omega, rfl, rfl, by go_num, B1.out, B2.out, H3.out⟩
        case measure => simp [intOf]; omega
    · have hkd : hi * 18446744073709551616 + lo = valD d := by
        have := hp.out
        rw [List.take_of_length_le (by omega)] at this
        exact this
      have hkn : ¬ (k : Int) < (s.size : Int) := by have := US.out; omega
      have hku : ¬ k < s.size := by omega
      have fin := S.out.pos hhi hlo hkd
      clear hkd hp hhi hlo
      rcases fin with ⟨f1, rfl, rfl, rfl⟩ | ⟨f1, f2, rfl, rfl, rfl⟩
      · go_wp2
        refine bodyPost_ret (by simp [results, Tryd.results23, go_sem]; try rfl) rfl ?_
        exact ⟨rfl, by go_grown⟩
      · go_wp2
        refine bodyPost_ret (by simp [results, Tryd.results23, go_sem]; try rfl) rfl ?_
        exact ⟨rfl, by go_grown⟩
theorem wparse_neg_no (s U : ByteArray) (d : List UInt8) (hl : d.length ≤ 1000) (hpos : 0 < s.size) (h0 : s[0] = 45) (hx : s.extract 1 s.size = U) (hud : U.data.toList = d) (hq : (isDec d && !(true && (d == [48]))) = false) (W : World) :
    Calls Tryd.prog 23 #[.string s] W fun e w' => e = .returned (.tuple #[.agg #[.int .i64 0, .int .u64 0], .int .i64 2]) ∧ Below W.heap.size W w' := by
  have FM := Lib.hid (fun W => form_neg s U d hl false hpos h0 hx hud hq W)
  clear hq hud
  go_enter Tryd.func23, Tryd.ntmps23
  go_wp2_with fail
  refine (FM.out _).mono ?_
  rintro e w0 ⟨rfl, rfl⟩
  go_wp2
  refine bodyPost_ret (by simp [results, Tryd.results23, go_sem]; try rfl) rfl ?_
  exact ⟨rfl, by go_grown⟩
theorem wparse_neg_long (s U : ByteArray) (d : List UInt8) (hl : d.length ≤ 1000) (hpos : 0 < s.size) (h0 : s[0] = 45) (hx : s.extract 1 s.size = U) (hud : U.data.toList = d) (hq : (isDec d && !(true && (d == [48]))) = true) (h39 : 39 < d.length) (W : World) :
    Calls Tryd.prog 23 #[.string s] W fun e w' => e = .returned (.tuple #[.agg #[.int .i64 0, .int .u64 0], .int .i64 7]) ∧ Below W.heap.size W w' := by
  have UD := Lib.hid hud
  have US := Lib.hid (ba_size U d hud)
  have FM := Lib.hid (fun W => form_neg s U d hl true hpos h0 hx hud hq W)
  have hp1 : 1 ≤ s.size := hpos
  have hp2 : (1 : Int) ≤ (s.size : Int) := by omega
  have hp3 : (0 : Int) < (s.size : Int) := by omega
  have g1 : (39 : Int) < (U.size : Int) := by have := US.out; omega
  have g2 : 39 < U.size := by omega
  clear hq hud
  go_enter Tryd.func23, Tryd.ntmps23
  go_wp2_with fail
  refine (FM.out _).mono ?_
  rintro e w0 ⟨rfl, rfl⟩
  go_wp2
  refine bodyPost_ret (by simp [results, Tryd.results23, go_sem]; try rfl) rfl ?_
  exact ⟨rfl, by go_grown⟩
set_option maxHeartbeats 4000000 in
theorem wparse_neg_yes (s U : ByteArray) (d : List UInt8) (hl : d.length ≤ 1000) (hpos : 0 < s.size) (h0 : s[0] = 45) (hx : s.extract 1 s.size = U) (hud : U.data.toList = d) (hq : (isDec d && !(true && (d == [48]))) = true) (h39 : d.length ≤ 39) (h l e0 : Int) (sy : Says true d h l e0) (W : World) :
    Calls Tryd.prog 23 #[.string s] W fun e w' => e = .returned (.tuple #[.agg #[.int .i64 h, .int .u64 l], .int .i64 e0]) ∧ Below W.heap.size W w' := by
  have UD := Lib.hid hud
  have US := Lib.hid (ba_size U d hud)
  have FM := Lib.hid (fun W => form_neg s U d hl true hpos h0 hx hud hq W)
  have hp1 : 1 ≤ s.size := hpos
  have hp2 : (1 : Int) ≤ (s.size : Int) := by omega
  have hp3 : (0 : Int) < (s.size : Int) := by omega
  have S := Lib.hid sy
  have DG := Lib.hid (isDec_digits (d := d) (by revert hq; cases isDec d <;> simp))
  have g1 : ¬ (39 : Int) < (U.size : Int) := by have := US.out; omega
  have g2 : ¬ 39 < U.size := by omega
  clear hq hud sy
  go_enter Tryd.func23, Tryd.ntmps23
  go_wp2_with fail
  refine (FM.out _).mono ?_
  rintro e w0 ⟨rfl, rfl⟩
  go_wp2
  go_loop [5, 6, 7] (fun a b c => ∃ k hi lo : Nat, k ≤ d.length ∧ a = .int .u64 (hi : Int) ∧ b = .int .u64 (lo : Int) ∧ c = .int .i64 (k : Int) ∧ hi < 18446744073709551616 ∧ lo < 18446744073709551616 ∧ Hid (hi * 18446744073709551616 + lo = valD (d.take k))) (fun _ _ c => d.length - (intOf c).toNat)
  case atStart => exact ⟨0, 0, 0, Nat.zero_le _, rfl, rfl, rfl, by omega, by omega, by unfold Hid; simp [valD]⟩
  case round =>
    obtain ⟨k, hi, lo, hk, rfl, rfl, rfl, hhi, hlo, hp⟩ := hrel
    by_cases hlt : k < d.length
    · have hku : k < U.size := by rw [US.out]; exact hlt
      have hkn : (k : Int) < (U.size : Int) := by omega
      obtain ⟨c, hc⟩ : ∃ c, d[k] = c := ⟨_, rfl⟩
      have hg : U[k] = c := by rw [ba_get U d UD.out k hku hlt, hc]
      have dc := DG.out c (by rw [← hc]; exact List.getElem_mem hlt)
      obtain ⟨dg, hdg⟩ : ∃ dg : Nat, (c.toNat : Int) - 48 = (dg : Int) := ⟨c.toNat - 48, by omega⟩
      have hv : (hi * 18446744073709551616 + lo) * 10 + dg = valD (d.take (k + 1)) := by
        rw [take_snoc_d d k hlt, valD_snoc, hc, hp.out, show c.toNat - 48 = dg by omega]
      have c1 : (48 : Int) ≤ (c.toNat : Int) := by omega
      have c2 : (c.toNat : Int) ≤ 57 := by omega
      have HA := Lib.hid (fun W => half_any lo 10 hlo (by omega) W)
      have HB := Lib.hid (fun W => half_any hi 10 hhi (by omega) W)
      obtain ⟨h', l', g', m', q1, q2, q3, q4, st⟩ := pstep hi lo dg _ hhi hlo (by omega) rfl
      rw [hv] at st
      rw [q1, q2] at HA
      rw [q3, q4] at HB
      have HV : Hid (valD (d.take (k + 1)) = valD (d.take (k + 1))) := rfl
      clear hv q1 q2 q3 q4 hhi hlo hc dc hp
      rcases st with ⟨s1, ov⟩ | ⟨s1, up, s2, ⟨s3, ov⟩ | ⟨s3, lo', s4, ⟨s5, k3, b1, b2⟩ | ⟨s5, up', s6, ⟨s7, ov⟩ | ⟨s7, k3, b1, b2⟩⟩⟩⟩
      all_goals
        first | (have OV := Lib.hid ov; clear ov) | (have H3 := Lib.hid k3; have B1 := Lib.hid b1; have B2 := Lib.hid b2; clear k3 b1 b2)
        go_wp2_with fail
        refine (HA.out _).mono ?_
        rintro e w0 ⟨rfl, rfl⟩
        go_wp2_with fail
        refine (HB.out _).mono ?_
        rintro e w0 ⟨rfl, rfl⟩
        go_wp2
      · refine bodyPost_ret (by simp [results, Tryd.results23, go_sem]; try rfl) rfl ?_
        obtain ⟨rfl, rfl, rfl⟩ := S.out.over (Nat.le_trans OV.out (valD_mono d (k + 1)))
        exact ⟨rfl, by go_grown⟩
      · refine bodyPost_ret (by simp [results, Tryd.results23, go_sem]; try rfl) rfl ?_
        obtain ⟨rfl, rfl, rfl⟩ := S.out.over (Nat.le_trans OV.out (valD_mono d (k + 1)))
        exact ⟨rfl, by go_grown⟩
      · go_round
        case rel => exact ⟨k + 1, up, lo', by omega, rfl, rfl, by go_num, B1.out, B2.out, H3.out⟩
        case measure => simp [intOf]; omega
      · refine bodyPost_ret (by simp [results, Tryd.results23, go_sem]; try rfl) rfl ?_
        obtain ⟨rfl, rfl, rfl⟩ := S.out.over (Nat.le_trans OV.out (valD_mono d (k + 1)))
        exact ⟨rfl, by go_grown⟩
      · go_round
        case rel => exact ⟨k + 1, up', lo', by omega, rfl, rfl, by go_num, B1.out, B2.out, H3.out⟩
        case measure => simp [intOf]; omega
    · have hkd : hi * 18446744073709551616 + lo = valD d := by
        have := hp.out
        rw [List.take_of_length_le (by omega)] at this
        exact this
      have hkn : ¬ (k : Int) < (U.size : Int) := by have := US.out; omega
      have hku : ¬ k < U.size := by omega
      have fin := S.out.neg hhi hlo hkd
      clear hkd hp hhi hlo
      rcases fin with ⟨f1 | ⟨f1, f2, f3⟩, rfl, rfl, rfl⟩ | ⟨f1, f2 | ⟨f2, f3⟩, rfl, x, f4, mn⟩
      · go_wp2
        refine bodyPost_ret (by simp [results, Tryd.results23, go_sem]; try rfl) rfl ?_
        exact ⟨rfl, by go_grown⟩
      · go_wp2
        refine bodyPost_ret (by simp [results, Tryd.results23, go_sem]; try rfl) rfl ?_
        exact ⟨rfl, by go_grown⟩
      all_goals
        have MN := Lib.hid mn
        clear mn
        go_wp2_with fail
        refine (MN.out _).mono ?_
        rintro e w1 ⟨rfl, hb1⟩
        have DR := (At.new W #[.int .i64 0, .int .u64 0] 29).below hb1
        have B : Below W.heap.size W w1 := below_then (below_new (Below.refl _ _) _) hb1
        clear hb1
        have aR0 := DR.cell 0 _ rfl
        have aR1 := DR.cell 1 _ rfl
        have zR0 := DR.free 0 _ rfl
        have zR1 := DR.free 1 _ rfl
        have nR := DR.lt
        go_wp2
        refine bodyPost_ret (by simp [results, Tryd.results23, go_sem, aR0, aR1]; try rfl) rfl ?_
        exact ⟨rfl, by go_grown⟩
end Go.Proofs.YtmggiclikbacjaaDoor
