/- The reference's form. -/
import Derived.Test.YtmggiclikbacjaaDoorRefI
import Derived.Test.YtmggiclikbacjaaDoorTextM
import Derived.LoopTactic
namespace Go.Proofs.YtmggiclikbacjaaDoor
open Go Go.Proofs Go.RowKit
set_option maxRecDepth 100000
def isForm (l : List UInt8) : Bool := isDec (Lib.trimPrefix l [45]) && !(Lib.hasPrefix l [45] && (Lib.trimPrefix l [45] == [48]))
theorem ba_get (U : ByteArray) (d : List UInt8) (h : U.data.toList = d) (k : Nat) (hk : k < U.size) (hd : k < d.length) : U[k] = d[k] := by
  subst h
  rfl
theorem ba_size (U : ByteArray) (d : List UInt8) (h : U.data.toList = d) : U.size = d.length := by
  subst h; exact Array.length_toList.symm
theorem dig_lo (c : UInt8) (h : isDig c = true) : decide ((c.toNat : Int) < 48) = false ∧ decide ((57 : Int) < (c.toNat : Int)) = false := by
  unfold isDig at h
  rw [Bool.and_eq_true, decide_eq_true_eq, decide_eq_true_eq] at h
  exact ⟨decide_eq_false (by omega), decide_eq_false (by omega)⟩
theorem dig_no (c : UInt8) (h : isDig c = false) : decide ((c.toNat : Int) < 48) = true ∨ (decide ((c.toNat : Int) < 48) = false ∧ decide ((57 : Int) < (c.toNat : Int)) = true) := by
  have h2 : ¬ (48 ≤ c.toNat ∧ c.toNat ≤ 57) := by
    rintro ⟨a, b⟩
    unfold isDig at h
    rw [decide_eq_true a, decide_eq_true b] at h
    cases h
  by_cases h1 : (c.toNat : Int) < 48
  · exact .inl (decide_eq_true h1)
  · exact .inr ⟨decide_eq_false h1, decide_eq_true (by omega)⟩
theorem all_snoc (d : List UInt8) (k : Nat) (hk : k < d.length) : (d.take (k + 1)).all isDig = ((d.take k).all isDig && isDig d[k]) := by
  rw [List.take_succ_eq_append_getElem hk, List.all_append]
  simp
theorem all_no (d : List UInt8) (k : Nat) (hk : k < d.length) (h : isDig d[k] = false) : d.all isDig = false := by
  rw [List.all_eq_false]
  exact ⟨d[k], List.getElem_mem hk, by simp [h]⟩
set_option linter.unusedSimpArgs false in
set_option maxHeartbeats 2000000 in
theorem form_pos (s : ByteArray) (d : List UInt8) (hl : d.length ≤ 1000) (q : Bool) (hud : s.data.toList = d) (hn : ∀ (h : 0 < s.size), s[0] ≠ 45) (hq : (isDec d && !(false && (d == [48]))) = q) (W : World) :
    Calls Tryd.prog 47 #[.string s] W fun e w' => e = .returned (.bool q) ∧ W = w' := by
  have UD := Lib.hid hud
  have US := Lib.hid (ba_size s d hud)
  have hT : s.toList = d := by rw [ByteArray.toList_eq]; exact hud
  rcases d with _ | ⟨c, t⟩
  · have z0 : s.size = 0 := by rw [US.out]; rfl
    have q0 : (s.toList == [48]) = false := by rw [hT]; rfl
    have q1 : s.toList.isEmpty = true := by rw [hT]; rfl
    obtain rfl : q = false := hq.symm
    clear hud
    clear hl hn
    go_enter Tryd.func47, Tryd.ntmps47
    go_wp2
    go_ret
    exact ⟨rfl, rfl⟩
  · have up : 0 < s.size := by rw [US.out]; simp
    have up2 : (0 : Int) < (s.size : Int) := by omega
    have g0 : s[0] = c := by rw [ba_get s _ hud 0 up (by simp)]; rfl
    have q1 : s.toList.isEmpty = false := by rw [hT]; rfl
    have q2 : ¬ s.toList = [] := by rw [hT]; simp
    have c45 : ((c.toNat : Int) == 45) = false := by
      rw [beq_eq_false_iff_ne]; intro e; exact hn up (by rw [g0]; exact UInt8.toNat_inj.1 (by simpa using (by omega : c.toNat = 45)))
    clear hn
    by_cases hc : c = 48
    · subst hc
      rcases t with _ | ⟨c2, t2⟩
      · have q0 : (s.toList == [48]) = true := by rw [hT]; rfl
        have sz : s.size = 1 := by rw [US.out]; rfl
        have n1 : ¬ (1 : Int) < (s.size : Int) := by omega
        have n2 : ¬ 1 < s.size := by omega
        generalize hd : ([48] : List UInt8) = d at *
        have R : Hid (q = d.all isDig) := by unfold Hid; rw [← hq, ← hd]; decide
        clear hT hud sz q0 hd hq
        go_enter Tryd.func47, Tryd.ntmps47
        go_wp2
        go_loop [3] (fun i => ∃ k : Nat, k ≤ d.length ∧ i = .int .i64 k ∧ Hid ((d.take k).all isDig = true)) (fun i => d.length - (intOf i).toNat)
        case atStart => exact ⟨0, Nat.zero_le _, rfl, rfl⟩
        case round =>
          obtain ⟨k, hk, rfl, hp⟩ := hrel
          by_cases hlt : k < d.length
          · have hku : k < s.size := by rw [US.out]; exact hlt
            have hkn : (k : Int) < (s.size : Int) := by omega
            obtain ⟨c, hc⟩ : ∃ c, d[k] = c := ⟨_, rfl⟩
            have hg : s[k] = c := by rw [ba_get s d UD.out k hku hlt, hc]
            have hs := all_snoc d k hlt
            rw [hp.out, hc] at hs
            have HS := Lib.hid hs
            have hno := all_no d k hlt
            rw [hc] at hno
            clear hs hc
            by_cases hdg : isDig c = true
            · obtain ⟨z1, z2⟩ := dig_lo c hdg
              have HD := Lib.hid hdg
              clear hno hdg
              go_wp2
              go_round
              case rel => exact ⟨k + 1, by omega, by go_num, by unfold Hid; rw [HS.out, HD.out]; rfl⟩
              case measure => simp [intOf]; omega
            · have hdf : isDig c = false := by simpa using hdg
              have HQ := Lib.hid (hno hdf)
              rcases dig_no c hdf with z1 | ⟨z1, z2⟩
              all_goals
                clear hno hdg hdf
                go_wp2
                go_ret
                exact ⟨by rw [R.out, HQ.out]; rfl, rfl⟩
          · have hkd : Hid (d.all isDig = true) := by
              unfold Hid
              have := hp.out
              rw [List.take_of_length_le (by omega)] at this
              exact this
            have hkn : ¬ (k : Int) < (s.size : Int) := by have := US.out; omega
            have hku : ¬ k < s.size := by omega
            go_wp2
            go_ret
            exact ⟨by rw [R.out, hkd.out]; rfl, rfl⟩
      · have q0 : (s.toList == [48]) = false := by rw [hT]; rfl
        have sz : 1 < s.size := by rw [US.out]; simp
        have n1 : (1 : Int) < (s.size : Int) := by omega
        obtain rfl : q = false := by rw [← hq, isDec_cons]; simp
        clear hT hud US hq
        go_enter Tryd.func47, Tryd.ntmps47
        go_wp2
        go_ret
        exact ⟨rfl, rfl⟩
    · have c48 : ((c.toNat : Int) == 48) = false := by
        rw [beq_eq_false_iff_ne]; intro e; exact hc (UInt8.toNat_inj.1 (by simpa using (by omega : c.toNat = 48)))
      have q0 : (s.toList == [48]) = false := by rw [hT]; simp [hc]
      have hcn : c.toNat ≠ 48 := by intro e; exact hc (UInt8.toNat_inj.1 (by simpa using e))
      have hr : q = (c :: t).all isDig := by rw [← hq, isDec_cons]; simp [hc, hcn]
      clear hq
      generalize (c :: t : List UInt8) = d at *
      have R := Lib.hid hr
      clear hT hud hr hcn hc
      go_enter Tryd.func47, Tryd.ntmps47
      go_wp2
      go_loop [3] (fun i => ∃ k : Nat, k ≤ d.length ∧ i = .int .i64 k ∧ Hid ((d.take k).all isDig = true)) (fun i => d.length - (intOf i).toNat)
      case atStart => exact ⟨0, Nat.zero_le _, rfl, rfl⟩
      case round =>
        obtain ⟨k, hk, rfl, hp⟩ := hrel
        by_cases hlt : k < d.length
        · have hku : k < s.size := by rw [US.out]; exact hlt
          have hkn : (k : Int) < (s.size : Int) := by omega
          obtain ⟨c, hc⟩ : ∃ c, d[k] = c := ⟨_, rfl⟩
          have hg : s[k] = c := by rw [ba_get s d UD.out k hku hlt, hc]
          have hs := all_snoc d k hlt
          rw [hp.out, hc] at hs
          have HS := Lib.hid hs
          have hno := all_no d k hlt
          rw [hc] at hno
          clear hs hc
          by_cases hdg : isDig c = true
          · obtain ⟨z1, z2⟩ := dig_lo c hdg
            have HD := Lib.hid hdg
            clear hno hdg
            go_wp2
            go_round
            case rel => exact ⟨k + 1, by omega, by go_num, by unfold Hid; rw [HS.out, HD.out]; rfl⟩
            case measure => simp [intOf]; omega
          · have hdf : isDig c = false := by simpa using hdg
            have HQ := Lib.hid (hno hdf)
            rcases dig_no c hdf with z1 | ⟨z1, z2⟩
            all_goals
              clear hno hdg hdf
              go_wp2
              go_ret
              exact ⟨by rw [R.out, HQ.out]; rfl, rfl⟩
        · have hkd : Hid (d.all isDig = true) := by
            unfold Hid
            have := hp.out
            rw [List.take_of_length_le (by omega)] at this
            exact this
          have hkn : ¬ (k : Int) < (s.size : Int) := by have := US.out; omega
          have hku : ¬ k < s.size := by omega
          go_wp2
          go_ret
          exact ⟨by rw [R.out, hkd.out]; rfl, rfl⟩
set_option linter.unusedSimpArgs false in
set_option maxHeartbeats 2000000 in
theorem form_neg (s U : ByteArray) (d : List UInt8) (hl : d.length ≤ 1000) (q : Bool) (hpos : 0 < s.size) (h0 : s[0] = 45) (hx : s.extract 1 s.size = U) (hud : U.data.toList = d) (hq : (isDec d && !(true && (d == [48]))) = q) (W : World) :
    Calls Tryd.prog 47 #[.string s] W fun e w' => e = .returned (.bool q) ∧ W = w' := by
  have UD := Lib.hid hud
  have US := Lib.hid (ba_size U d hud)
  have hT : U.toList = d := by rw [ByteArray.toList_eq]; exact hud
  have hp1 : 1 ≤ s.size := hpos
  have hp2 : (1 : Int) ≤ (s.size : Int) := by omega
  have hp3 : (0 : Int) < (s.size : Int) := by omega
  rcases d with _ | ⟨c, t⟩
  · have z0 : U.size = 0 := by rw [US.out]; rfl
    have q0 : (U.toList == [48]) = false := by rw [hT]; rfl
    have q1 : U.toList.isEmpty = true := by rw [hT]; rfl
    obtain rfl : q = false := hq.symm
    clear hud
    clear z0 hl
    go_enter Tryd.func47, Tryd.ntmps47
    go_wp2
    go_ret
    exact ⟨rfl, rfl⟩
  · have up : 0 < U.size := by rw [US.out]; simp
    have up2 : (0 : Int) < (U.size : Int) := by omega
    have g0 : U[0] = c := by rw [ba_get U _ hud 0 up (by simp)]; rfl
    have q1 : U.toList.isEmpty = false := by rw [hT]; rfl
    have q2 : ¬ U.toList = [] := by rw [hT]; simp
    by_cases hc : c = 48
    · subst hc
      rcases t with _ | ⟨c2, t2⟩
      · have q0 : (U.toList == [48]) = true := by rw [hT]; rfl
        have sz : U.size = 1 := by rw [US.out]; rfl
        obtain rfl : q = false := by rw [← hq]; decide
        clear hT hud sz US
        go_enter Tryd.func47, Tryd.ntmps47
        go_wp2
        go_ret
        exact ⟨rfl, rfl⟩
      · have q0 : (U.toList == [48]) = false := by rw [hT]; rfl
        have sz : 1 < U.size := by rw [US.out]; simp
        have n1 : (1 : Int) < (U.size : Int) := by omega
        obtain rfl : q = false := by rw [← hq, isDec_cons]; simp
        clear hT hud US hq
        go_enter Tryd.func47, Tryd.ntmps47
        go_wp2
        go_ret
        exact ⟨rfl, rfl⟩
    · have c48 : ((c.toNat : Int) == 48) = false := by
        rw [beq_eq_false_iff_ne]; intro e; exact hc (UInt8.toNat_inj.1 (by simpa using (by omega : c.toNat = 48)))
      have q0 : (U.toList == [48]) = false := by rw [hT]; simp [hc]
      have hcn : c.toNat ≠ 48 := by intro e; exact hc (UInt8.toNat_inj.1 (by simpa using e))
      have hr : q = (c :: t).all isDig := by rw [← hq, isDec_cons]; simp [hc, hcn]
      clear hq
      generalize (c :: t : List UInt8) = d at *
      have R := Lib.hid hr
      clear hT hud hr hcn hc
      go_enter Tryd.func47, Tryd.ntmps47
      go_wp2
      go_loop [3] (fun i => ∃ k : Nat, k ≤ d.length ∧ i = .int .i64 k ∧ Hid ((d.take k).all isDig = true)) (fun i => d.length - (intOf i).toNat)
      case atStart => exact ⟨0, Nat.zero_le _, rfl, rfl⟩
      case round =>
        obtain ⟨k, hk, rfl, hp⟩ := hrel
        by_cases hlt : k < d.length
        · have hku : k < U.size := by rw [US.out]; exact hlt
          have hkn : (k : Int) < (U.size : Int) := by omega
          obtain ⟨c, hc⟩ : ∃ c, d[k] = c := ⟨_, rfl⟩
          have hg : U[k] = c := by rw [ba_get U d UD.out k hku hlt, hc]
          have hs := all_snoc d k hlt
          rw [hp.out, hc] at hs
          have HS := Lib.hid hs
          have hno := all_no d k hlt
          rw [hc] at hno
          clear hs hc
          by_cases hdg : isDig c = true
          · obtain ⟨z1, z2⟩ := dig_lo c hdg
            have HD := Lib.hid hdg
            clear hno hdg
            go_wp2
            go_round
            case rel => exact ⟨k + 1, by omega, by go_num, by unfold Hid; rw [HS.out, HD.out]; rfl⟩
            case measure => simp [intOf]; omega
          · have hdf : isDig c = false := by simpa using hdg
            have HQ := Lib.hid (hno hdf)
            rcases dig_no c hdf with z1 | ⟨z1, z2⟩
            all_goals
              clear hno hdg hdf
              go_wp2
              go_ret
              exact ⟨by rw [R.out, HQ.out]; rfl, rfl⟩
        · have hkd : Hid (d.all isDig = true) := by
            unfold Hid
            have := hp.out
            rw [List.take_of_length_le (by omega)] at this
            exact this
          have hkn : ¬ (k : Int) < (U.size : Int) := by have := US.out; omega
          have hku : ¬ k < U.size := by omega
          go_wp2
          go_ret
          exact ⟨by rw [R.out, hkd.out]; rfl, rfl⟩
end Go.Proofs.YtmggiclikbacjaaDoor
