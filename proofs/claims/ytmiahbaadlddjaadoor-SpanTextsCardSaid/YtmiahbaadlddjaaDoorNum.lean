/- The reference's numbers in words: form, half, WideParse at digits. -/
import Derived.Test.YtmiahbaadlddjaaDoorRefI
import Derived.LoopTactic
import Derived.Lib.Mul64
import Derived.Lib.Strings
namespace Go.Proofs.YtmiahbaadlddjaaDoor
open Go Go.Proofs Go.RowKit
set_option maxRecDepth 100000
attribute [local go_sem] cell_set
def isDig (c : UInt8) : Bool := decide (48 ≤ c.toNat) && decide (c.toNat ≤ 57)
/-- digits alone, at least one, without a leading nought -/
def isDec : List UInt8 → Bool
  | [] => false
  | c :: t => (c :: t).all isDig && (decide (c.toNat ≠ 48) || t.isEmpty)

theorem isDec_cons (c : UInt8) (t : List UInt8) : isDec (c :: t) = ((c :: t).all isDig && (decide (c.toNat ≠ 48) || t.isEmpty)) := rfl
def valD (l : List UInt8) : Nat := l.foldl (fun a c => a * 10 + (c.toNat - 48)) 0
theorem valD_snoc (l : List UInt8) (c : UInt8) : valD (l ++ [c]) = valD l * 10 + (c.toNat - 48) := by simp [valD]
theorem take_snoc_d (l : List UInt8) (k : Nat) (h : k < l.length) : l.take (k + 1) = l.take k ++ [l[k]] := by
  rw [List.take_succ_eq_append_getElem h]

/-- the number a decimal with or without a sign tells -/
def signed (b : Bool) (d : List UInt8) : Int := (if b then -1 else 1) * (valD d : Int)

theorem isDec_digits {d : List UInt8} (h : isDec d = true) : ∀ c ∈ d, 48 ≤ c.toNat ∧ c.toNat ≤ 57 := by
  cases d with
  | nil => cases h
  | cons c t =>
    rw [isDec_cons, Bool.and_eq_true] at h
    intro x hx
    have := List.all_eq_true.1 h.1 x hx
    simpa [isDig] using this

theorem valD_lt (d : List UInt8) (hd : ∀ c ∈ d, c.toNat ≤ 57) : valD d < 10 ^ d.length := by
  have h : ∀ k, k ≤ d.length → valD (d.take k) < 10 ^ k := by
    intro k
    induction k with
    | zero => intro _; simp [valD]
    | succ k ih =>
      intro hk
      have h1 := ih (by omega)
      have h2 := hd d[k] (List.getElem_mem (by omega))
      rw [take_snoc_d d k (by omega), valD_snoc, Nat.pow_succ]
      omega
  have := h d.length (Nat.le_refl _)
  rwa [List.take_length] at this
theorem mask32 (a : Int) (h1 : 0 ≤ a) (h2 : a < 18446744073709551616) : bits BinOp.and IntKind.u64 a 4294967295 = a % 4294967296 := by
  obtain ⟨a, rfl⟩ := Int.eq_ofNat_of_zero_le h1
  have h := u64_and_nat a 4294967295 (by omega) (by omega)
  rw [show a &&& 4294967295 = a % 4294967296 from Nat.and_two_pow_sub_one_eq_mod a 32] at h
  exact h
theorem maskN (x : Nat) (hx : x < 18446744073709551616) : bits BinOp.and IntKind.u64 (x : Int) 4294967295 = ((x % 4294967296 : Nat) : Int) := by
  rw [mask32 _ (by omega) (by omega)]; omega
theorem divN (x : Nat) : (x : Int) / 4294967296 = ((x / 4294967296 : Nat) : Int) := by omega
theorem mulN (a b : Nat) : (a : Int) * (b : Int) = ((a * b : Nat) : Int) := (Int.natCast_mul a b).symm
theorem addN (a b : Nat) : (a : Int) + (b : Int) = ((a + b : Nat) : Int) := (Int.natCast_add a b).symm
theorem wrapN (a : Nat) (ha : a < 18446744073709551616) : IntKind.u64.wrap (a : Int) = (a : Int) := by rw [IntKind.wrap_u64]; omega
theorem or_parts (z d : Nat) (hd : d < 4294967296) : bits BinOp.or IntKind.u64 (IntKind.u64.wrap ((z : Int) * 4294967296)) (d : Int) = (((z * 4294967296) % 18446744073709551616 + d : Nat) : Int) := by
  rw [show IntKind.u64.wrap ((z : Int) * 4294967296) = (((z * 4294967296) % 18446744073709551616 : Nat) : Int) by rw [IntKind.wrap_u64]; omega, u64_or_nat _ _ (by omega) (by omega)]
  have e : (z * 4294967296) % 18446744073709551616 = (z % 4294967296) <<< 32 := by rw [Nat.shiftLeft_eq]; omega
  rw [e, ← Nat.shiftLeft_add_eq_or_of_lt (by omega)]
set_option maxHeartbeats 2000000 in
theorem half_any (x y : Nat) (hx : x < 18446744073709551616) (hy : y < 18446744073709551616) (W : World) :
    Calls Tryd.prog 52 #[.int .u64 x, .int .u64 y] W fun e w' => e = .returned (.tuple #[.int .u64 ((x * y / 18446744073709551616 : Nat) : Int), .int .u64 ((x * y % 18446744073709551616 : Nat) : Int)]) ∧ W = w' := by
  obtain ⟨bd, bt, bw, hhi⟩ := Lib.mul64_hi x y hx hy
  have ba := Lib.half_mul_le (a := x / 4294967296) (b := y / 4294967296) (by omega) (by omega)
  have bb := Lib.half_mul_le (a := x / 4294967296) (b := y % 4294967296) (by omega) (by omega)
  have bc := Lib.half_mul_le (a := x % 4294967296) (b := y / 4294967296) (by omega) (by omega)
  have ba' : x / 4294967296 * (y / 4294967296) < 18446744073709551616 := by omega
  have bb' : x / 4294967296 * (y % 4294967296) < 18446744073709551616 := by omega
  have bc' : x % 4294967296 * (y / 4294967296) < 18446744073709551616 := by omega
  have bw' : x % 4294967296 * (y / 4294967296) + (x / 4294967296 * (y % 4294967296) + x % 4294967296 * (y % 4294967296) / 4294967296) % 4294967296 < 18446744073709551616 := by omega
  have bh1 : x / 4294967296 * (y / 4294967296) + (x / 4294967296 * (y % 4294967296) + x % 4294967296 * (y % 4294967296) / 4294967296) / 4294967296 < 18446744073709551616 := by omega
  have bh : x / 4294967296 * (y / 4294967296) + (x / 4294967296 * (y % 4294967296) + x % 4294967296 * (y % 4294967296) / 4294967296) / 4294967296 + (x % 4294967296 * (y / 4294967296) + (x / 4294967296 * (y % 4294967296) + x % 4294967296 * (y % 4294967296) / 4294967296) % 4294967296) / 4294967296 < 18446744073709551616 := by omega
  have hh : x / 4294967296 * (y / 4294967296) + (x / 4294967296 * (y % 4294967296) + x % 4294967296 * (y % 4294967296) / 4294967296) / 4294967296 + (x % 4294967296 * (y / 4294967296) + (x / 4294967296 * (y % 4294967296) + x % 4294967296 * (y % 4294967296) / 4294967296) % 4294967296) / 4294967296 = x * y / 18446744073709551616 := by
    rw [← hhi, Nat.add_comm (x % 4294967296 * (y / 4294967296))]
  have hl : (x % 4294967296 * (y / 4294967296) + (x / 4294967296 * (y % 4294967296) + x % 4294967296 * (y % 4294967296) / 4294967296) % 4294967296) * 4294967296 % 18446744073709551616 + x % 4294967296 * (y % 4294967296) % 4294967296 = x * y % 18446744073709551616 := by
    have e : x * y = (x / 4294967296) * (y / 4294967296) * (4294967296 * 4294967296) + ((x / 4294967296) * (y % 4294967296) + (x % 4294967296) * (y / 4294967296)) * 4294967296 + (x % 4294967296) * (y % 4294967296) := by
      rw [← Lib.split_mul, Nat.div_add_mod' x 4294967296, Nat.div_add_mod' y 4294967296]
    clear hh hhi
    rw [e]
    generalize (x / 4294967296) * (y / 4294967296) = a at *
    generalize (x / 4294967296) * (y % 4294967296) = b at *
    generalize (x % 4294967296) * (y / 4294967296) = c at *
    generalize (x % 4294967296) * (y % 4294967296) = d at *
    omega
  have HH := Lib.hid hh
  have HL := Lib.hid hl
  clear hh hl hhi
  go_enter Tryd.func52, Tryd.ntmps52
  go_wp2
  simp only [maskN x hx, maskN y hy, divN, mulN, addN, wrapN _ bd, wrapN _ bb', wrapN _ bt, maskN _ bt, maskN _ bd, wrapN _ bc', wrapN _ bw', wrapN _ ba', wrapN _ bh1, wrapN _ bh]
  rw [or_parts _ _ (Nat.mod_lt _ (by omega)), HH.out, HL.out]
  go_ret2
  exact ⟨rfl, rfl⟩
theorem ba_get (U : ByteArray) (d : List UInt8) (h : U.data.toList = d) (k : Nat) (hk : k < U.size) (hd : k < d.length) : U[k] = d[k] := by
  subst h
  rfl
theorem ba_size (U : ByteArray) (d : List UInt8) (h : U.data.toList = d) : U.size = d.length := by
  subst h; exact Array.length_toList.symm
theorem dig_lo (c : UInt8) (h : isDig c = true) : decide ((c.toNat : Int) < 48) = false ∧ decide ((57 : Int) < (c.toNat : Int)) = false := by
  unfold isDig at h
  rw [Bool.and_eq_true, decide_eq_true_eq, decide_eq_true_eq] at h
  exact ⟨decide_eq_false (by omega), decide_eq_false (by omega)⟩
theorem dig_no (c : UInt8) (h : isDig c = false) : decide ((c.toNat : Int) < 48) = true ∨ (decide ((c.toNat : Int) < 48) = false ∧ decide ((57 : Int) < (c.toNat : Int)) = true) := by
  have h2 : ¬ (48 ≤ c.toNat ∧ c.toNat ≤ 57) := by
    rintro ⟨a, b⟩
    unfold isDig at h
    rw [decide_eq_true a, decide_eq_true b] at h
    cases h
  by_cases h1 : (c.toNat : Int) < 48
  · exact .inl (decide_eq_true h1)
  · exact .inr ⟨decide_eq_false h1, decide_eq_true (by omega)⟩
theorem all_snoc (d : List UInt8) (k : Nat) (hk : k < d.length) : (d.take (k + 1)).all isDig = ((d.take k).all isDig && isDig d[k]) := by
  rw [List.take_succ_eq_append_getElem hk, List.all_append]
  simp
theorem all_no (d : List UInt8) (k : Nat) (hk : k < d.length) (h : isDig d[k] = false) : d.all isDig = false := by
  rw [List.all_eq_false]
  exact ⟨d[k], List.getElem_mem hk, by simp [h]⟩
set_option linter.unusedSimpArgs false in
set_option maxHeartbeats 2000000 in
theorem form_pos (s : ByteArray) (d : List UInt8) (hl : d.length ≤ 1000) (q : Bool) (hud : s.data.toList = d) (hn : ∀ (h : 0 < s.size), s[0] ≠ 45) (hq : (isDec d && !(false && (d == [48]))) = q) (W : World) :
    Calls Tryd.prog 51 #[.string s] W fun e w' => e = .returned (.bool q) ∧ W = w' := by
  have UD := Lib.hid hud
  have US := Lib.hid (ba_size s d hud)
  have hT : s.toList = d := by rw [ByteArray.toList_eq]; exact hud
  rcases d with _ | ⟨c, t⟩
  · have z0 : s.size = 0 := by rw [US.out]; rfl
    have q0 : (s.toList == [48]) = false := by rw [hT]; rfl
    have q1 : s.toList.isEmpty = true := by rw [hT]; rfl
    obtain rfl : q = false := hq.symm
    clear hud
    clear hl hn
    go_enter Tryd.func51, Tryd.ntmps51
    go_wp2
    go_ret
    exact ⟨rfl, rfl⟩
  · have up : 0 < s.size := by rw [US.out]; simp
    have up2 : (0 : Int) < (s.size : Int) := by omega
    have g0 : s[0] = c := by rw [ba_get s _ hud 0 up (by simp)]; rfl
    have q1 : s.toList.isEmpty = false := by rw [hT]; rfl
    have q2 : ¬ s.toList = [] := by rw [hT]; simp
    have c45 : ((c.toNat : Int) == 45) = false := by
      rw [beq_eq_false_iff_ne]; intro e; exact hn up (by rw [g0]; exact UInt8.toNat_inj.1 (by simpa using (by omega : c.toNat = 45)))
    clear hn
    by_cases hc : c = 48
    · subst hc
      rcases t with _ | ⟨c2, t2⟩
      · have q0 : (s.toList == [48]) = true := by rw [hT]; rfl
        have sz : s.size = 1 := by rw [US.out]; rfl
        have n1 : ¬ (1 : Int) < (s.size : Int) := by omega
        have n2 : ¬ 1 < s.size := by omega
        generalize hd : ([48] : List UInt8) = d at *
        have R : Hid (q = d.all isDig) := by unfold Hid; rw [← hq, ← hd]; decide
        clear hT hud sz q0 hd hq
        go_enter Tryd.func51, Tryd.ntmps51
        go_wp2
        go_loop [3] (fun i => ∃ k : Nat, k ≤ d.length ∧ i = .int .i64 k ∧ Hid ((d.take k).all isDig = true)) (fun i => d.length - (intOf i).toNat)
        case atStart => exact ⟨0, Nat.zero_le _, rfl, rfl⟩
        case round =>
          obtain ⟨k, hk, rfl, hp⟩ := hrel
          by_cases hlt : k < d.length
          · have hku : k < s.size := by rw [US.out]; exact hlt
            have hkn : (k : Int) < (s.size : Int) := by omega
            obtain ⟨c, hc⟩ : ∃ c, d[k] = c := ⟨_, rfl⟩
            have hg : s[k] = c := by rw [ba_get s d UD.out k hku hlt, hc]
            have hs := all_snoc d k hlt
            rw [hp.out, hc] at hs
            have HS := Lib.hid hs
            have hno := all_no d k hlt
            rw [hc] at hno
            clear hs hc
            by_cases hdg : isDig c = true
            · obtain ⟨z1, z2⟩ := dig_lo c hdg
              have HD := Lib.hid hdg
              clear hno hdg
              go_wp2
              go_round
              case rel => exact ⟨k + 1, by omega, by go_num, by unfold Hid; rw [HS.out, HD.out]; rfl⟩
              case measure => simp [intOf]; omega
            · have hdf : isDig c = false := by simpa using hdg
              have HQ := Lib.hid (hno hdf)
              rcases dig_no c hdf with z1 | ⟨z1, z2⟩
              all_goals
                clear hno hdg hdf
                go_wp2
                go_ret
                exact ⟨by rw [R.out, HQ.out]; rfl, rfl⟩
          · have hkd : Hid (d.all isDig = true) := by
              unfold Hid
              have := hp.out
              rw [List.take_of_length_le (by omega)] at this
              exact this
            have hkn : ¬ (k : Int) < (s.size : Int) := by have := US.out; omega
            have hku : ¬ k < s.size := by omega
            go_wp2
            go_ret
            exact ⟨by rw [R.out, hkd.out]; rfl, rfl⟩
      · have q0 : (s.toList == [48]) = false := by rw [hT]; rfl
        have sz : 1 < s.size := by rw [US.out]; simp
        have n1 : (1 : Int) < (s.size : Int) := by omega
        obtain rfl : q = false := by rw [← hq, isDec_cons]; simp
        clear hT hud US hq
        go_enter Tryd.func51, Tryd.ntmps51
        go_wp2
        go_ret
        exact ⟨rfl, rfl⟩
    · have c48 : ((c.toNat : Int) == 48) = false := by
        rw [beq_eq_false_iff_ne]; intro e; exact hc (UInt8.toNat_inj.1 (by simpa using (by omega : c.toNat = 48)))
      have q0 : (s.toList == [48]) = false := by rw [hT]; simp [hc]
      have hcn : c.toNat ≠ 48 := by intro e; exact hc (UInt8.toNat_inj.1 (by simpa using e))
      have hr : q = (c :: t).all isDig := by rw [← hq, isDec_cons]; simp [hc, hcn]
      clear hq
      generalize (c :: t : List UInt8) = d at *
      have R := Lib.hid hr
      clear hT hud hr hcn hc
      go_enter Tryd.func51, Tryd.ntmps51
      go_wp2
      go_loop [3] (fun i => ∃ k : Nat, k ≤ d.length ∧ i = .int .i64 k ∧ Hid ((d.take k).all isDig = true)) (fun i => d.length - (intOf i).toNat)
      case atStart => exact ⟨0, Nat.zero_le _, rfl, rfl⟩
      case round =>
        obtain ⟨k, hk, rfl, hp⟩ := hrel
        by_cases hlt : k < d.length
        · have hku : k < s.size := by rw [US.out]; exact hlt
          have hkn : (k : Int) < (s.size : Int) := by omega
          obtain ⟨c, hc⟩ : ∃ c, d[k] = c := ⟨_, rfl⟩
          have hg : s[k] = c := by rw [ba_get s d UD.out k hku hlt, hc]
          have hs := all_snoc d k hlt
          rw [hp.out, hc] at hs
          have HS := Lib.hid hs
          have hno := all_no d k hlt
          rw [hc] at hno
          clear hs hc
          by_cases hdg : isDig c = true
          · obtain ⟨z1, z2⟩ := dig_lo c hdg
            have HD := Lib.hid hdg
            clear hno hdg
            go_wp2
            go_round
            case rel => exact ⟨k + 1, by omega, by go_num, by unfold Hid; rw [HS.out, HD.out]; rfl⟩
            case measure => simp [intOf]; omega
          · have hdf : isDig c = false := by simpa using hdg
            have HQ := Lib.hid (hno hdf)
            rcases dig_no c hdf with z1 | ⟨z1, z2⟩
            all_goals
              clear hno hdg hdf
              go_wp2
              go_ret
              exact ⟨by rw [R.out, HQ.out]; rfl, rfl⟩
        · have hkd : Hid (d.all isDig = true) := by
            unfold Hid
            have := hp.out
            rw [List.take_of_length_le (by omega)] at this
            exact this
          have hkn : ¬ (k : Int) < (s.size : Int) := by have := US.out; omega
          have hku : ¬ k < s.size := by omega
          go_wp2
          go_ret
          exact ⟨by rw [R.out, hkd.out]; rfl, rfl⟩
/-- one digit more: where the two limbs run over, or what they are -/
theorem pstep (hi lo dg V : Nat) (h1 : hi < 18446744073709551616) (h2 : lo < 18446744073709551616) (hd : dg ≤ 9) (hV : V = (hi * 18446744073709551616 + lo) * 10 + dg) :
    ∃ h l g m : Nat, lo * 10 / 18446744073709551616 = h ∧ lo * 10 % 18446744073709551616 = l ∧ hi * 10 / 18446744073709551616 = g ∧ hi * 10 % 18446744073709551616 = m ∧
    ((decide (0 < g) = true ∧ 340282366920938463463374607431768211456 ≤ V) ∨
     (decide (0 < g) = false ∧ ∃ up : Nat, IntKind.u64.wrap ((m : Int) + (h : Int)) = (up : Int) ∧
      ((decide (up < m) = true ∧ 340282366920938463463374607431768211456 ≤ V) ∨
       (decide (up < m) = false ∧ ∃ lo' : Nat, IntKind.u64.wrap ((l : Int) + (dg : Int)) = (lo' : Int) ∧
        ((decide (lo' < l) = false ∧ up * 18446744073709551616 + lo' = V ∧ up < 18446744073709551616 ∧ lo' < 18446744073709551616) ∨
         (decide (lo' < l) = true ∧ ∃ up' : Nat, IntKind.u64.wrap ((up : Int) + 1) = (up' : Int) ∧
          (((up' == 0) = true ∧ 340282366920938463463374607431768211456 ≤ V) ∨ ((up' == 0) = false ∧ up' * 18446744073709551616 + lo' = V ∧ up' < 18446744073709551616 ∧ lo' < 18446744073709551616)))))))) := by
  refine ⟨_, _, _, _, rfl, rfl, rfl, rfl, ?_⟩
  have f1 : lo * 10 = lo * 10 / 18446744073709551616 * 18446744073709551616 + lo * 10 % 18446744073709551616 := (Nat.div_add_mod' _ _).symm
  have f2 : hi * 10 = hi * 10 / 18446744073709551616 * 18446744073709551616 + hi * 10 % 18446744073709551616 := (Nat.div_add_mod' _ _).symm
  have f3 : lo * 10 % 18446744073709551616 < 18446744073709551616 := Nat.mod_lt _ (by omega)
  have f4 : hi * 10 % 18446744073709551616 < 18446744073709551616 := Nat.mod_lt _ (by omega)
  have hV' : V = hi * 10 * 18446744073709551616 + lo * 10 + dg := by omega
  have k1 : hi * 10 < 18446744073709551616 * 10 := by omega
  have k2 : lo * 10 < 18446744073709551616 * 10 := by omega
  clear hV h1 h2
  generalize lo * 10 / 18446744073709551616 = h at *
  generalize lo * 10 % 18446744073709551616 = l at *
  generalize hi * 10 / 18446744073709551616 = g at *
  generalize hi * 10 % 18446744073709551616 = m at *
  generalize lo * 10 = L at *
  generalize hi * 10 = H at *
  subst f1 f2
  by_cases c1 : 0 < g
  · exact .inl ⟨decide_eq_true c1, by omega⟩
  · obtain rfl : g = 0 := by omega
    by_cases c2 : m + h < 18446744073709551616
    · refine .inr ⟨decide_eq_false c1, m + h, by rw [IntKind.wrap_u64]; omega, .inr ⟨decide_eq_false (by omega), ?_⟩⟩
      by_cases c3 : l + dg < 18446744073709551616
      · exact ⟨l + dg, by rw [IntKind.wrap_u64]; omega, .inl ⟨decide_eq_false (by omega), by omega, by omega, by omega⟩⟩
      · refine ⟨l + dg - 18446744073709551616, by rw [IntKind.wrap_u64]; omega, .inr ⟨decide_eq_true (by omega), ?_⟩⟩
        by_cases c4 : m + h + 1 < 18446744073709551616
        · exact ⟨m + h + 1, by rw [IntKind.wrap_u64]; omega, .inr ⟨by rw [beq_eq_false_iff_ne]; omega, by omega, by omega, by omega⟩⟩
        · exact ⟨0, by rw [IntKind.wrap_u64]; omega, .inl ⟨by rw [beq_iff_eq], by omega⟩⟩
    · exact .inr ⟨decide_eq_false c1, m + h - 18446744073709551616, by rw [IntKind.wrap_u64]; omega, .inl ⟨decide_eq_true (by omega), by omega⟩⟩
theorem valD_mono (d : List UInt8) (k : Nat) : valD (d.take k) ≤ valD d := by
  have h : ∀ (t : List UInt8) (a : Nat), a ≤ t.foldl (fun a c => a * 10 + (c.toNat - 48)) a := by
    intro t
    induction t with
    | nil => intro a; exact Nat.le_refl _
    | cons c t ih => intro a; rw [List.foldl_cons]; have := ih (a * 10 + (c.toNat - 48)); omega
  have e : valD d = (d.drop k).foldl (fun a c => a * 10 + (c.toNat - 48)) (valD (d.take k)) := by
    unfold valD
    rw [← List.foldl_append, List.take_append_drop]
  rw [e]; exact h _ _
/-- what WideParse answers of a decimal -/
def Says (b : Bool) (d : List UInt8) (h l e0 : Int) : Prop := (Fits (signed b d) ∧ InI h l ∧ val h l = signed b d ∧ e0 = 0) ∨ (¬ Fits (signed b d) ∧ h = 0 ∧ l = 0 ∧ e0 = 7)
theorem says_ex (b : Bool) (d : List UInt8) : ∃ h l e0, Says b d h l e0 := by
  by_cases hf : Fits (signed b d)
  · obtain ⟨h, l, i, v⟩ := fits_ex hf
    exact ⟨h, l, 0, .inl ⟨hf, i, v, rfl⟩⟩
  · exact ⟨0, 0, 7, .inr ⟨hf, rfl, rfl, rfl⟩⟩
theorem Says.over {b : Bool} {d : List UInt8} {h l e0 : Int} (s : Says b d h l e0) (hv : 340282366920938463463374607431768211456 ≤ valD d) : h = 0 ∧ l = 0 ∧ e0 = 7 := by
  rcases s with ⟨f, _⟩ | ⟨_, a⟩
  · exfalso; unfold Fits signed at f; cases b <;> simp at f <;> omega
  · exact a
/-- the end, above 0 -/
theorem Says.pos {d : List UInt8} {h l e0 : Int} (s : Says false d h l e0) {hi lo : Nat} (h1 : hi < 18446744073709551616) (h2 : lo < 18446744073709551616) (hv : hi * 18446744073709551616 + lo = valD d) :
    (decide (9223372036854775808 ≤ (hi : Int)) = true ∧ h = 0 ∧ l = 0 ∧ e0 = 7) ∨ (decide (9223372036854775808 ≤ (hi : Int)) = false ∧ IntKind.i64.wrap (hi : Int) = (hi : Int) ∧ h = (hi : Int) ∧ l = (lo : Int) ∧ e0 = 0) := by
  have hs : signed false d = (valD d : Int) := by unfold signed; simp
  rcases s with ⟨f, i, v, e⟩ | ⟨f, a⟩
  · rw [hs] at f v
    unfold Fits at f
    obtain ⟨p, q⟩ := val_inj (c := (hi : Int)) (d := (lo : Int)) i ⟨by omega, by omega, by omega, by omega⟩ (by rw [v]; unfold val; omega)
    exact .inr ⟨decide_eq_false (by omega), by rw [IntKind.wrap_i64]; omega, p, q, e⟩
  · rw [hs] at f
    unfold Fits at f
    exact .inl ⟨decide_eq_true (by omega), a⟩
/-- the end, below 0 -/
theorem Says.neg {d : List UInt8} {h l e0 : Int} (s : Says true d h l e0) {hi lo : Nat} (h1 : hi < 18446744073709551616) (h2 : lo < 18446744073709551616) (hv : hi * 18446744073709551616 + lo = valD d) :
    (((decide (9223372036854775808 < (hi : Int)) = true ∨ (decide (9223372036854775808 < (hi : Int)) = false ∧ ((hi : Int) == 9223372036854775808) = true ∧ decide (0 < lo) = true)) ∧ h = 0 ∧ l = 0 ∧ e0 = 7)) ∨
    (decide (9223372036854775808 < (hi : Int)) = false ∧ (((hi : Int) == 9223372036854775808) = false ∨ (((hi : Int) == 9223372036854775808) = true ∧ decide (0 < lo) = false)) ∧ e0 = 0 ∧
      ∃ x : Int, IntKind.i64.wrap (hi : Int) = x ∧ ∀ W, Calls Tryd.prog 40 #[.agg #[.int .i64 x, .int .u64 lo]] W fun e w' => e = .returned (.agg #[.int .i64 h, .int .u64 l]) ∧ Below W.heap.size W w') := by
  have hs : signed true d = -(valD d : Int) := by unfold signed; simp
  rcases s with ⟨f, i, v, e⟩ | ⟨f, a⟩
  · rw [hs] at f v
    unfold Fits at f
    refine .inr ⟨decide_eq_false (by omega), ?_, e, _, rfl, fun W => ?_⟩
    · by_cases c : (hi : Int) = 9223372036854775808
      · exact .inr ⟨by rw [beq_iff_eq]; exact c, decide_eq_false (by omega)⟩
      · exact .inl (by rw [beq_eq_false_iff_ne]; exact c)
    · by_cases c : (hi : Int) = 9223372036854775808
      · refine ref_minus (IntKind.i64.wrap (hi : Int)) lo h l (-1) ⟨?_, ?_, by omega, by omega⟩ i ?_ W
        · rw [IntKind.wrap_i64]; omega
        · rw [IntKind.wrap_i64]; omega
        · rw [v, IntKind.wrap_i64]; unfold val; omega
      · refine ref_minus (IntKind.i64.wrap (hi : Int)) lo h l 0 ⟨?_, ?_, by omega, by omega⟩ i ?_ W
        · rw [IntKind.wrap_i64]; omega
        · rw [IntKind.wrap_i64]; omega
        · rw [v, IntKind.wrap_i64]; unfold val; omega
  · rw [hs] at f
    unfold Fits at f
    refine .inl ⟨?_, a⟩
    by_cases c : (9223372036854775808 : Int) < (hi : Int)
    · exact .inl (decide_eq_true c)
    · exact .inr ⟨decide_eq_false c, by rw [beq_iff_eq]; omega, decide_eq_true (by omega)⟩
theorem wparse_pos_no (s : ByteArray) (d : List UInt8) (hl : d.length ≤ 1000) (hud : s.data.toList = d) (hn : ∀ (h : 0 < s.size), s[0] ≠ 45) (hq : (isDec d && !(false && (d == [48]))) = false) (W : World) :
    Calls Tryd.prog 38 #[.string s] W fun e w' => e = .returned (.tuple #[.agg #[.int .i64 0, .int .u64 0], .int .i64 2]) ∧ Below W.heap.size W w' := by
  have FM := Lib.hid (fun W => form_pos s d hl false hud hn hq W)
  clear hq hud
  go_enter Tryd.func38, Tryd.ntmps38
  go_wp2_with fail
  refine (FM.out _).mono ?_
  rintro e w0 ⟨rfl, rfl⟩
  go_wp2
  refine bodyPost_ret (by simp [results, Tryd.results38, go_sem]; try rfl) rfl ?_
  exact ⟨rfl, by go_grown⟩
theorem wparse_pos_long (s : ByteArray) (d : List UInt8) (hl : d.length ≤ 1000) (hud : s.data.toList = d) (hn : ∀ (h : 0 < s.size), s[0] ≠ 45) (hq : (isDec d && !(false && (d == [48]))) = true) (h39 : 39 < d.length) (W : World) :
    Calls Tryd.prog 38 #[.string s] W fun e w' => e = .returned (.tuple #[.agg #[.int .i64 0, .int .u64 0], .int .i64 7]) ∧ Below W.heap.size W w' := by
  have UD := Lib.hid hud
  have US := Lib.hid (ba_size s d hud)
  have FM := Lib.hid (fun W => form_pos s d hl true hud hn hq W)
  have hne : d ≠ [] := by intro e; subst e; cases hq
  have up : 0 < s.size := by rw [US.out]; exact List.length_pos_iff.2 hne
  have up2 : (0 : Int) < (s.size : Int) := by omega
  obtain ⟨c0, hc0⟩ : ∃ c0, s[0] = c0 := ⟨_, rfl⟩
  have c45 : ((c0.toNat : Int) == 45) = false := by
    rw [beq_eq_false_iff_ne]; intro e; exact hn up (by rw [hc0]; exact UInt8.toNat_inj.1 (by simpa using (by omega : c0.toNat = 45)))
  clear hne hn
  have g1 : (39 : Int) < (s.size : Int) := by have := US.out; omega
  have g2 : 39 < s.size := by omega
  clear hq hud
  go_enter Tryd.func38, Tryd.ntmps38
  go_wp2_with fail
  refine (FM.out _).mono ?_
  rintro e w0 ⟨rfl, rfl⟩
  go_wp2
  refine bodyPost_ret (by simp [results, Tryd.results38, go_sem]; try rfl) rfl ?_
  exact ⟨rfl, by go_grown⟩
set_option maxHeartbeats 4000000 in
theorem wparse_pos_yes (s : ByteArray) (d : List UInt8) (hl : d.length ≤ 1000) (hud : s.data.toList = d) (hn : ∀ (h : 0 < s.size), s[0] ≠ 45) (hq : (isDec d && !(false && (d == [48]))) = true) (h39 : d.length ≤ 39) (h l e0 : Int) (sy : Says false d h l e0) (W : World) :
    Calls Tryd.prog 38 #[.string s] W fun e w' => e = .returned (.tuple #[.agg #[.int .i64 h, .int .u64 l], .int .i64 e0]) ∧ Below W.heap.size W w' := by
  have UD := Lib.hid hud
  have US := Lib.hid (ba_size s d hud)
  have FM := Lib.hid (fun W => form_pos s d hl true hud hn hq W)
  have hne : d ≠ [] := by intro e; subst e; cases hq
  have up : 0 < s.size := by rw [US.out]; exact List.length_pos_iff.2 hne
  have up2 : (0 : Int) < (s.size : Int) := by omega
  obtain ⟨c0, hc0⟩ : ∃ c0, s[0] = c0 := ⟨_, rfl⟩
  have c45 : ((c0.toNat : Int) == 45) = false := by
    rw [beq_eq_false_iff_ne]; intro e; exact hn up (by rw [hc0]; exact UInt8.toNat_inj.1 (by simpa using (by omega : c0.toNat = 45)))
  clear hne hn
  have S := Lib.hid sy
  have DG := Lib.hid (isDec_digits (d := d) (by revert hq; cases isDec d <;> simp))
  have g1 : ¬ (39 : Int) < (s.size : Int) := by have := US.out; omega
  have g2 : ¬ 39 < s.size := by omega
  clear hq hud sy
  go_enter Tryd.func38, Tryd.ntmps38
  go_wp2_with fail
  refine (FM.out _).mono ?_
  rintro e w0 ⟨rfl, rfl⟩
  go_wp2
  go_loop [5, 6, 7] (fun a b c => ∃ k hi lo : Nat, k ≤ d.length ∧ a = .int .u64 (hi : Int) ∧ b = .int .u64 (lo : Int) ∧ c = .int .i64 (k : Int) ∧ hi < 18446744073709551616 ∧ lo < 18446744073709551616 ∧ Hid (hi * 18446744073709551616 + lo = valD (d.take k))) (fun _ _ c => d.length - (intOf c).toNat)
  case atStart => exact ⟨0, 0, 0, Nat.zero_le _, rfl, rfl, rfl, by omega, by omega, by unfold Hid; simp [valD]⟩
  case round =>
    obtain ⟨k, hi, lo, hk, rfl, rfl, rfl, hhi, hlo, hp⟩ := hrel
    by_cases hlt : k < d.length
    · have hku : k < s.size := by rw [US.out]; exact hlt
      have hkn : (k : Int) < (s.size : Int) := by omega
      obtain ⟨c, hc⟩ : ∃ c, d[k] = c := ⟨_, rfl⟩
      have hg : s[k] = c := by rw [ba_get s d UD.out k hku hlt, hc]
      have dc := DG.out c (by rw [← hc]; exact List.getElem_mem hlt)
      obtain ⟨dg, hdg⟩ : ∃ dg : Nat, (c.toNat : Int) - 48 = (dg : Int) := ⟨c.toNat - 48, by omega⟩
      have hv : (hi * 18446744073709551616 + lo) * 10 + dg = valD (d.take (k + 1)) := by
        rw [take_snoc_d d k hlt, valD_snoc, hc, hp.out, show c.toNat - 48 = dg by omega]
      have c1 : (48 : Int) ≤ (c.toNat : Int) := by omega
      have c2 : (c.toNat : Int) ≤ 57 := by omega
      have HA := Lib.hid (fun W => half_any lo 10 hlo (by omega) W)
      have HB := Lib.hid (fun W => half_any hi 10 hhi (by omega) W)
      obtain ⟨h', l', g', m', q1, q2, q3, q4, st⟩ := pstep hi lo dg _ hhi hlo (by omega) rfl
      rw [hv] at st
      rw [q1, q2] at HA
      rw [q3, q4] at HB
      have HV : Hid (valD (d.take (k + 1)) = valD (d.take (k + 1))) := rfl
      clear hv q1 q2 q3 q4 hhi hlo hc dc hp
      rcases st with ⟨s1, ov⟩ | ⟨s1, up, s2, ⟨s3, ov⟩ | ⟨s3, lo', s4, ⟨s5, k3, b1, b2⟩ | ⟨s5, up', s6, ⟨s7, ov⟩ | ⟨s7, k3, b1, b2⟩⟩⟩⟩
      all_goals
        first | (have OV := Lib.hid ov; clear ov) | (have H3 := Lib.hid k3; have B1 := Lib.hid b1; have B2 := Lib.hid b2; clear k3 b1 b2)
        go_wp2_with fail
        refine (HA.out _).mono ?_
        rintro e w0 ⟨rfl, rfl⟩
        go_wp2_with fail
        refine (HB.out _).mono ?_
        rintro e w0 ⟨rfl, rfl⟩
        go_wp2
      · refine bodyPost_ret (by simp [results, Tryd.results38, go_sem]; try rfl) rfl ?_
        obtain ⟨rfl, rfl, rfl⟩ := S.out.over (Nat.le_trans OV.out (valD_mono d (k + 1)))
        exact ⟨rfl, by go_grown⟩
      · refine bodyPost_ret (by simp [results, Tryd.results38, go_sem]; try rfl) rfl ?_
        obtain ⟨rfl, rfl, rfl⟩ := S.out.over (Nat.le_trans OV.out (valD_mono d (k + 1)))
        exact ⟨rfl, by go_grown⟩
      · go_round
        case rel => exact ⟨k + 1, up, lo', by omega, rfl, rfl, by go_num, B1.out, B2.out, H3.out⟩
        case measure => simp [intOf]; omega
      · refine bodyPost_ret (by simp [results, Tryd.results38, go_sem]; try rfl) rfl ?_
        obtain ⟨rfl, rfl, rfl⟩ := S.out.over (Nat.le_trans OV.out (valD_mono d (k + 1)))
        exact ⟨rfl, by go_grown⟩
      · go_round
        case rel => exact ⟨k + 1, up', lo', by omega, rfl, rfl, by go_num, B1.out, B2.out, H3.out⟩
        case measure => simp [intOf]; omega
    · have hkd : hi * 18446744073709551616 + lo = valD d := by
        have := hp.out
        rw [List.take_of_length_le (by omega)] at this
        exact this
      have hkn : ¬ (k : Int) < (s.size : Int) := by have := US.out; omega
      have hku : ¬ k < s.size := by omega
      have fin := S.out.pos hhi hlo hkd
      clear hkd hp hhi hlo
      rcases fin with ⟨f1, rfl, rfl, rfl⟩ | ⟨f1, f2, rfl, rfl, rfl⟩
      · go_wp2
        refine bodyPost_ret (by simp [results, Tryd.results38, go_sem]; try rfl) rfl ?_
        exact ⟨rfl, by go_grown⟩
      · go_wp2
        refine bodyPost_ret (by simp [results, Tryd.results38, go_sem]; try rfl) rfl ?_
        exact ⟨rfl, by go_grown⟩
end Go.Proofs.YtmiahbaadlddjaaDoor
