/- belfrylaw4.RegexTimes: for every two texts and every byte the law returns true. -/
import Derived.Test.YtcfdpbbpdnpnnaaDoorKnown
import Derived.Test.YtcfdpbbpdnpnnaaDoorRComp
namespace Go.Proofs.YtcfdpbbpdnpnnaaDoor
open Go Go.Proofs Go.RowKit Go.Shelf
set_option maxRecDepth 100000
theorem comp_ne {l : List UInt8} {er j : Nat} (h : Rx.compileF l = .bad er j) : (((er : Nat) : Int) != 0) = true := by
  have : er ≠ 0 := by
    unfold Rx.compileF at h
    split at h
    · cases h; decide
    · have g := Rx.choice_goes (Rx.inner_goes (l := l) 9) (k := 0) (Nat.zero_le _)
      cases hs : Rx.choiceF (Rx.innerF l 9) l 0 with
      | bad e i => rw [hs] at h g; cases h; have := g.2.2; omega
      | ok q i =>
        rw [hs] at h
        dsimp only at h
        split at h
        · cases h; decide
        · cases h
  rw [bne_iff_ne]; omega
def tsB (s : ByteArray) : Nat → ByteArray
  | 0 => ⟨#[]⟩
  | n + 1 => tsB s n ++ s
theorem ba_app (a b : ByteArray) : (a ++ b).data.toList = a.data.toList ++ b.data.toList := by simp
theorem tsB_list {s : ByteArray} {l : List UInt8} (h : s.data.toList = l) : ∀ n, (tsB s n).data.toList = Rx.timesL l n := by
  intro n
  induction n with
  | zero => rfl
  | succ n ih => show (tsB s n ++ s).data.toList = _; rw [ba_app, ih, h]; rfl
theorem tsB_size {s : ByteArray} {l : List UInt8} (h : s.data.toList = l) (hl : l.length ≤ 10) {n : Nat} (hn : n ≤ 4) : (tsB s n).size ≤ 40 := by
  have := Rx.times_len l n
  have h2 : n * l.length ≤ 4 * 10 := Nat.mul_le_mul hn hl
  rw [Lib.size_eq, tsB_list h]; omega
theorem par_ba (p : ByteArray) (l b : List UInt8) (h : p.data.toList = l) : ((⟨#[40]⟩ : ByteArray) ++ p ++ ⟨(41 :: b).toArray⟩).data.toList = Rx.par [] l b := by rw [ba_app, ba_app, h]; simp [Rx.par]
theorem seven (w : World) (hT : Tab w) (p : ByteArray) (l b : List UInt8) (hp : p.data.toList = l) (hl : l.length ≤ 50) (hb : b.length ≤ 100) (s : ByteArray) (hs : s = (⟨#[40]⟩ : ByteArray) ++ p ++ ⟨(41 :: b).toArray⟩) : Calls Tryd.prog 9 #[.string s] w (CP w s (Rx.par [] l b) (Rx.compileF (Rx.par [] l b))) := by
  have e := Rx.par_len [] l b
  exact compile_any s (Rx.par [] l b) (by rw [hs]; exact par_ba p l b hp) (by rw [e]; simp; omega) w hT
set_option maxHeartbeats 8000000 in
theorem times_p (p s : ByteArray) (lp ls : List UInt8) (hp : p.data.toList = lp) (hs : s.data.toList = ls) (c : UInt8) (w : World) (hT : Tab w) (h1 : 50 < lp.length) : Calls Tryd.prog 6 #[.string p, .string s, .int .u8 (c.toNat : Int)] w fun e w' => e = .returned (.bool true) ∧ Below w.heap.size w w' := by
  have K := Lib.hid (known_any w hT)
  have HT := Lib.hid hT
  have sp : p.size = lp.length := by rw [Lib.size_eq, hp]
  have ss : s.size = ls.length := by rw [Lib.size_eq, hs]
  have HP := Lib.hid hp
  have HS := Lib.hid hs
  have cl := c.toNat_lt
  clear hT hp hs
  have d1 : decide ((50 : Int) < (lp.length : Int)) = true := decide_eq_true (by omega)
  have d2 : decide (50 < lp.length) = true := decide_eq_true (by omega)
  have dd1 : decide ((50 : Int) < (p.size : Int)) = true := decide_eq_true (by omega)
  have dd2 : decide (50 < p.size) = true := decide_eq_true (by omega)
  go_enter Tryd.func6, Tryd.ntmps6
  go_wp2_with fail
  refine K.out.mono ?_
  rintro e w1 ⟨rfl, hb⟩
  have HT := Lib.hid (HT.out.below hb)
  have HB := Lib.hid hb
  clear hb K
  go_wp2
  go_ret
  exact ⟨rfl, HB.out⟩
set_option maxHeartbeats 8000000 in
theorem times_s (p s : ByteArray) (lp ls : List UInt8) (hp : p.data.toList = lp) (hs : s.data.toList = ls) (c : UInt8) (w : World) (hT : Tab w) (h1 : lp.length ≤ 50) (h2 : 10 < ls.length) : Calls Tryd.prog 6 #[.string p, .string s, .int .u8 (c.toNat : Int)] w fun e w' => e = .returned (.bool true) ∧ Below w.heap.size w w' := by
  have K := Lib.hid (known_any w hT)
  have HT := Lib.hid hT
  have sp : p.size = lp.length := by rw [Lib.size_eq, hp]
  have ss : s.size = ls.length := by rw [Lib.size_eq, hs]
  have HP := Lib.hid hp
  have HS := Lib.hid hs
  have cl := c.toNat_lt
  clear hT hp hs
  have d1 : decide ((50 : Int) < (lp.length : Int)) = false := decide_eq_false (by omega)
  have d2 : decide (50 < lp.length) = false := decide_eq_false (by omega)
  have dd1 : decide ((50 : Int) < (p.size : Int)) = false := decide_eq_false (by omega)
  have dd2 : decide (50 < p.size) = false := decide_eq_false (by omega)
  have g1 : decide ((10 : Int) < (ls.length : Int)) = true := decide_eq_true (by omega)
  have g2 : decide (10 < ls.length) = true := decide_eq_true (by omega)
  have gg1 : decide ((10 : Int) < (s.size : Int)) = true := decide_eq_true (by omega)
  have gg2 : decide (10 < s.size) = true := decide_eq_true (by omega)
  go_enter Tryd.func6, Tryd.ntmps6
  go_wp2_with fail
  refine K.out.mono ?_
  rintro e w1 ⟨rfl, hb⟩
  have HT := Lib.hid (HT.out.below hb)
  have HB := Lib.hid hb
  clear hb K
  go_wp2
  go_ret
  exact ⟨rfl, HB.out⟩
set_option maxHeartbeats 8000000 in
theorem times_a (p s : ByteArray) (lp ls : List UInt8) (hp : p.data.toList = lp) (hs : s.data.toList = ls) (c : UInt8) (w : World) (hT : Tab w) (h1 : lp.length ≤ 50) (h2 : ls.length ≤ 10) (er j : Nat) (hA : Rx.compileF lp = .bad er j) : Calls Tryd.prog 6 #[.string p, .string s, .int .u8 (c.toNat : Int)] w fun e w' => e = .returned (.bool true) ∧ Below w.heap.size w w' := by
  have K := Lib.hid (known_any w hT)
  have HT := Lib.hid hT
  have sp : p.size = lp.length := by rw [Lib.size_eq, hp]
  have ss : s.size = ls.length := by rw [Lib.size_eq, hs]
  have HP := Lib.hid hp
  have HS := Lib.hid hs
  have cl := c.toNat_lt
  clear hT hp hs
  have d1 : decide ((50 : Int) < (lp.length : Int)) = false := decide_eq_false (by omega)
  have d2 : decide (50 < lp.length) = false := decide_eq_false (by omega)
  have dd1 : decide ((50 : Int) < (p.size : Int)) = false := decide_eq_false (by omega)
  have dd2 : decide (50 < p.size) = false := decide_eq_false (by omega)
  have g1 : decide ((10 : Int) < (ls.length : Int)) = false := decide_eq_false (by omega)
  have g2 : decide (10 < ls.length) = false := decide_eq_false (by omega)
  have gg1 : decide ((10 : Int) < (s.size : Int)) = false := decide_eq_false (by omega)
  have gg2 : decide (10 < s.size) = false := decide_eq_false (by omega)
  have HA := Lib.hid (fun W => alone_any p lp HP.out W)
  rw [hA] at HA
  have ea : isBad (.bad er j) = true := rfl
  rw [ea] at HA
  clear ea
  go_enter Tryd.func6, Tryd.ntmps6
  go_wp2_with fail
  refine K.out.mono ?_
  rintro e w1 ⟨rfl, hb⟩
  have HT := Lib.hid (HT.out.below hb)
  have HB := Lib.hid hb
  clear hb K
  go_wp2_with fail
  refine (HA.out w1).mono ?_
  rintro e w2 ⟨rfl, hb⟩
  have HT := Lib.hid (HT.out.below hb)
  have HB := Lib.hid (HB.out.trans (hb.mono HB.out.size))
  clear hb HA
  go_wp2
  go_ret
  exact ⟨rfl, HB.out⟩
set_option maxHeartbeats 8000000 in
theorem times_c (p s : ByteArray) (lp ls : List UInt8) (hp : p.data.toList = lp) (hs : s.data.toList = ls) (c : UInt8) (w : World) (hT : Tab w) (h1 : lp.length ≤ 50) (h2 : ls.length ≤ 10) (P : Rx.Pt) (z : Nat) (hA : Rx.compileF lp = .ok P z) (er j : Nat) (hC : Rx.compileF (Rx.par [] lp []) = .bad er j) : Calls Tryd.prog 6 #[.string p, .string s, .int .u8 (c.toNat : Int)] w fun e w' => e = .returned (.bool true) ∧ Below w.heap.size w w' := by
  have K := Lib.hid (known_any w hT)
  have HT := Lib.hid hT
  have sp : p.size = lp.length := by rw [Lib.size_eq, hp]
  have ss : s.size = ls.length := by rw [Lib.size_eq, hs]
  have HP := Lib.hid hp
  have HS := Lib.hid hs
  have cl := c.toNat_lt
  clear hT hp hs
  have d1 : decide ((50 : Int) < (lp.length : Int)) = false := decide_eq_false (by omega)
  have d2 : decide (50 < lp.length) = false := decide_eq_false (by omega)
  have dd1 : decide ((50 : Int) < (p.size : Int)) = false := decide_eq_false (by omega)
  have dd2 : decide (50 < p.size) = false := decide_eq_false (by omega)
  have g1 : decide ((10 : Int) < (ls.length : Int)) = false := decide_eq_false (by omega)
  have g2 : decide (10 < ls.length) = false := decide_eq_false (by omega)
  have gg1 : decide ((10 : Int) < (s.size : Int)) = false := decide_eq_false (by omega)
  have gg2 : decide (10 < s.size) = false := decide_eq_false (by omega)
  have HA := Lib.hid (fun W => alone_any p lp HP.out W)
  rw [hA] at HA
  have ea : isBad (.ok P z) = false := rfl
  rw [ea] at HA
  clear ea
  have HC := Lib.hid (fun W h => seven W h p lp [] HP.out h1 (by simp))
  rw [hC] at HC
  have ne := comp_ne hC
  clear hA hC
  go_enter Tryd.func6, Tryd.ntmps6
  go_wp2_with fail
  refine K.out.mono ?_
  rintro e w1 ⟨rfl, hb⟩
  have HT := Lib.hid (HT.out.below hb)
  have HB := Lib.hid hb
  clear hb K
  go_wp2_with fail
  refine (HA.out w1).mono ?_
  rintro e w2 ⟨rfl, hb⟩
  have HT := Lib.hid (HT.out.below hb)
  have HB := Lib.hid (HB.out.trans (hb.mono HB.out.size))
  clear hb HA
  go_wp2_with fail
  refine (HC.out _ HT.out _ rfl).mono ?_
  rintro e w3 ⟨hb, rfl⟩
  have HB := Lib.hid (HB.out.trans (hb.mono HB.out.size))
  clear hb
  go_wp2
  go_ret
  exact ⟨rfl, HB.out⟩
set_option maxHeartbeats 8000000 in
theorem times_n (p s : ByteArray) (lp ls : List UInt8) (hp : p.data.toList = lp) (hs : s.data.toList = ls) (c : UInt8) (w : World) (hT : Tab w) (h1 : lp.length ≤ 50) (h2 : ls.length ≤ 10) (P Q : Rx.Pt) (z y : Nat) (hA : Rx.compileF lp = .ok P z) (hC : Rx.compileF (Rx.par [] lp []) = .ok Q y) (hM : Rx.matchN Q ls = false) : Calls Tryd.prog 6 #[.string p, .string s, .int .u8 (c.toNat : Int)] w fun e w' => e = .returned (.bool true) ∧ Below w.heap.size w w' := by
  have K := Lib.hid (known_any w hT)
  have HT := Lib.hid hT
  have sp : p.size = lp.length := by rw [Lib.size_eq, hp]
  have ss : s.size = ls.length := by rw [Lib.size_eq, hs]
  have HP := Lib.hid hp
  have HS := Lib.hid hs
  have cl := c.toNat_lt
  clear hT hp hs
  have d1 : decide ((50 : Int) < (lp.length : Int)) = false := decide_eq_false (by omega)
  have d2 : decide (50 < lp.length) = false := decide_eq_false (by omega)
  have dd1 : decide ((50 : Int) < (p.size : Int)) = false := decide_eq_false (by omega)
  have dd2 : decide (50 < p.size) = false := decide_eq_false (by omega)
  have g1 : decide ((10 : Int) < (ls.length : Int)) = false := decide_eq_false (by omega)
  have g2 : decide (10 < ls.length) = false := decide_eq_false (by omega)
  have gg1 : decide ((10 : Int) < (s.size : Int)) = false := decide_eq_false (by omega)
  have gg2 : decide (10 < s.size) = false := decide_eq_false (by omega)
  have HA := Lib.hid (fun W => alone_any p lp HP.out W)
  rw [hA] at HA
  have ea : isBad (.ok P z) = false := rfl
  rw [ea] at HA
  clear ea
  have HC := Lib.hid (fun W h => seven W h p lp [] HP.out h1 (by simp))
  rw [hC] at HC
  have MA := Lib.hid hM
  clear hA hC hM
  have ls2 : ls.length ≤ 1000 := by omega
  go_enter Tryd.func6, Tryd.ntmps6
  go_wp2_with fail
  refine K.out.mono ?_
  rintro e w1 ⟨rfl, hb⟩
  have HT := Lib.hid (HT.out.below hb)
  have HB := Lib.hid hb
  clear hb K
  go_wp2_with fail
  refine (HA.out w1).mono ?_
  rintro e w2 ⟨rfl, hb⟩
  have HT := Lib.hid (HT.out.below hb)
  have HB := Lib.hid (HB.out.trans (hb.mono HB.out.size))
  clear hb HA
  go_wp2_with fail
  refine (HC.out _ HT.out _ rfl).mono ?_
  rintro e w3 ⟨hb, ra, rfl, hga, hX⟩
  have HT := Lib.hid (HT.out.below hb)
  have Ha := Lib.hid hX
  have HB := Lib.hid (HB.out.trans (hb.mono HB.out.size))
  clear hb hX hga
  go_wp2_with fail
  refine (match_c _ ra _ _ _ _ Ha.out ls ls2 _ MA.out _ HS.out).mono ?_
  rintro e w4 ⟨rfl, hb⟩
  have HB := Lib.hid (HB.out.trans (hb.mono HB.out.size))
  clear hb
  go_wp2
  go_ret
  exact ⟨rfl, HB.out⟩
set_option maxHeartbeats 8000000 in
theorem times_f (p s : ByteArray) (lp ls : List UInt8) (hp : p.data.toList = lp) (hs : s.data.toList = ls) (c : UInt8) (w : World) (hT : Tab w) (h1 : lp.length ≤ 50) (h2 : ls.length ≤ 10) (P : Rx.Pt) (z : Nat) (hA : Rx.compileF lp = .ok P z) (hp1 : Rx.Par lp P) (hlv : Rx.leaves P ≤ 60) (hM : Rx.matchN (Rx.wrap1 P) ls = true) : Calls Tryd.prog 6 #[.string p, .string s, .int .u8 (c.toNat : Int)] w fun e w' => e = .returned (.bool true) ∧ Below w.heap.size w w' := by
  have K := Lib.hid (known_any w hT)
  have HT := Lib.hid hT
  have sp : p.size = lp.length := by rw [Lib.size_eq, hp]
  have ss : s.size = ls.length := by rw [Lib.size_eq, hs]
  have HP := Lib.hid hp
  have HS := Lib.hid hs
  have cl := c.toNat_lt
  clear hT hp hs
  have d1 : decide ((50 : Int) < (lp.length : Int)) = false := decide_eq_false (by omega)
  have d2 : decide (50 < lp.length) = false := decide_eq_false (by omega)
  have dd1 : decide ((50 : Int) < (p.size : Int)) = false := decide_eq_false (by omega)
  have dd2 : decide (50 < p.size) = false := decide_eq_false (by omega)
  have g1 : decide ((10 : Int) < (ls.length : Int)) = false := decide_eq_false (by omega)
  have g2 : decide (10 < ls.length) = false := decide_eq_false (by omega)
  have gg1 : decide ((10 : Int) < (s.size : Int)) = false := decide_eq_false (by omega)
  have gg2 : decide (10 < s.size) = false := decide_eq_false (by omega)
  have HA := Lib.hid (fun W => alone_any p lp HP.out W)
  rw [hA] at HA
  have ea : isBad (.ok P z) = false := rfl
  rw [ea] at HA
  clear ea
  have HC := Lib.hid (fun W h => seven W h p lp [] HP.out h1 (by simp))
  have HD := Lib.hid (fun W h => seven W h p lp [42] HP.out h1 (by simp))
  have HE := Lib.hid (fun W h => seven W h p lp [43] HP.out h1 (by simp))
  rw [Rx.comp_par hp1 h1] at HC
  rw [Rx.comp_star hp1 h1] at HD
  rw [Rx.comp_plus hp1 h1] at HE
  have MA := Lib.hid hM
  have MS := Lib.hid (Rx.match_star hlv hM (c.toNat % 5))
  have MS0 := Lib.hid (Rx.match_star hlv hM 0)
  have MP : Hid (c.toNat % 5 = 0 ∨ Rx.matchN (Rx.wrap1 (.plus P)) (Rx.timesL ls (c.toNat % 5)) = true) := by
    rcases Nat.eq_zero_or_pos (c.toNat % 5) with h | h
    · exact Or.inl h
    · right; obtain ⟨n, hn⟩ : ∃ n, c.toNat % 5 = n + 1 := ⟨c.toNat % 5 - 1, by omega⟩
      rw [hn]; exact Rx.match_plus hlv hM n
  have M0 := Lib.hid (Rx.match_plus0 hlv)
  have tl : (Rx.timesL ls (c.toNat % 5)).length ≤ 1000 := by
    rw [Rx.times_len]
    have : c.toNat % 5 < 5 := Nat.mod_lt _ (by decide)
    have : (c.toNat % 5) * ls.length ≤ 4 * 10 := Nat.mul_le_mul (by omega) h2
    omega
  have TL := Lib.hid tl
  have ls2 : ls.length ≤ 1000 := by omega
  clear hA hM hp1 hlv tl
  go_enter Tryd.func6, Tryd.ntmps6
  go_wp2_with fail
  refine K.out.mono ?_
  rintro e w1 ⟨rfl, hb⟩
  have HT := Lib.hid (HT.out.below hb)
  have HB := Lib.hid hb
  clear hb K
  go_wp2_with fail
  refine (HA.out w1).mono ?_
  rintro e w2 ⟨rfl, hb⟩
  have HT := Lib.hid (HT.out.below hb)
  have HB := Lib.hid (HB.out.trans (hb.mono HB.out.size))
  clear hb HA
  go_wp2_with fail
  refine (HC.out _ HT.out _ rfl).mono ?_
  rintro e w3 ⟨hb, ra, rfl, hga, hX⟩
  have HT := Lib.hid (HT.out.below hb)
  have Ha := Lib.hid hX
  have HB := Lib.hid (HB.out.trans (hb.mono HB.out.size))
  clear hb hX hga
  go_wp2_with fail
  refine (match_c _ ra _ _ _ _ Ha.out ls ls2 _ MA.out _ HS.out).mono ?_
  rintro e w4 ⟨rfl, hb⟩
  have HT := Lib.hid (HT.out.below hb)
  have Ha := Lib.hid (Ha.out.below hb)
  have HB := Lib.hid (HB.out.trans (hb.mono HB.out.size))
  clear hb
  go_wp2_with fail
  refine (HD.out _ HT.out _ rfl).mono ?_
  rintro e w5 ⟨hb, rd, rfl, hgd, hX⟩
  have HT := Lib.hid (HT.out.below hb)
  have Ha := Lib.hid (Ha.out.below hb)
  have Hd := Lib.hid hX
  have HB := Lib.hid (HB.out.trans (hb.mono HB.out.size))
  clear hb hX hgd
  go_wp2_with fail
  refine (HE.out _ HT.out _ rfl).mono ?_
  rintro e w6 ⟨hb, re, rfl, hge, hX⟩
  have HT := Lib.hid (HT.out.below hb)
  have Ha := Lib.hid (Ha.out.below hb)
  have Hd := Lib.hid (Hd.out.below hb)
  have He := Lib.hid hX
  have HB := Lib.hid (HB.out.trans (hb.mono HB.out.size))
  clear hb hX hge
  go_wp2_with fail
  go_loop [16, 17] (fun t i => ∃ k : Nat, k ≤ c.toNat % 5 ∧ t = .string (tsB s k) ∧ i = .int .i64 k) (fun _ i => c.toNat % 5 - (intOf i).toNat)
  case atStart => exact ⟨0, Nat.zero_le _, rfl, rfl⟩
  case round =>
    obtain ⟨k, hk, rfl, rfl⟩ := hrel
    by_cases hlt : k < c.toNat % 5
    · have hl1 : decide ((k : Int) < ((c.toNat : Int) % 5)) = true := decide_eq_true (by omega)
      have hl2 : decide (k < c.toNat % 5) = true := decide_eq_true hlt
      have hz := tsB_size HS.out h2 (n := k) (by omega)
      go_wp2
      go_round
      case rel => exact ⟨k + 1, by omega, rfl, by go_num⟩
      case measure => simp [intOf]; omega
    · have hl1 : decide ((k : Int) < ((c.toNat : Int) % 5)) = false := decide_eq_false (by omega)
      have hl2 : decide (k < c.toNat % 5) = false := decide_eq_false hlt
      obtain rfl : k = c.toNat % 5 := by omega
      go_wp2_with fail
      refine (match_c _ rd _ _ _ _ Hd.out (Rx.timesL ls (c.toNat % 5)) TL.out _ MS.out _ (tsB_list HS.out _)).mono ?_
      rintro e w7 ⟨rfl, hb⟩
      have Ha := Lib.hid (Ha.out.below hb)
      have Hd := Lib.hid (Hd.out.below hb)
      have He := Lib.hid (He.out.below hb)
      have HB := Lib.hid (HB.out.trans (hb.mono HB.out.size))
      clear hb
      go_wp2_with fail
      refine (match_c _ rd _ _ _ _ Hd.out [] (by simp) _ MS0.out _ rfl).mono ?_
      rintro e w8 ⟨rfl, hb⟩
      have Ha := Lib.hid (Ha.out.below hb)
      have He := Lib.hid (He.out.below hb)
      have HB := Lib.hid (HB.out.trans (hb.mono HB.out.size))
      clear hb
      by_cases hz : c.toNat % 5 = 0
      · have z1 : ((c.toNat : Int) % 5 == 0) = true := by rw [beq_iff_eq]; omega
        have z2 : (c.toNat % 5 == 0) = true := by rw [beq_iff_eq]; omega
        go_wp2_with fail
        refine (match_c _ re _ _ _ _ He.out [] (by simp) _ M0.out _ rfl).mono ?_
        rintro e w10 ⟨rfl, hb⟩
        have Ha := Lib.hid (Ha.out.below hb)
        have HB := Lib.hid (HB.out.trans (hb.mono HB.out.size))
        clear hb
        go_wp2_with fail
        refine (match_c _ ra _ _ _ _ Ha.out [] (by simp) _ rfl _ rfl).mono ?_
        rintro e w11 ⟨rfl, hb⟩
        have HB := Lib.hid (HB.out.trans (hb.mono HB.out.size))
        clear hb
        have qq : (Rx.matchN (Rx.wrap1 P) [] == Rx.matchN (Rx.wrap1 P) []) = true := beq_self_eq_true _
        go_wp2
        go_ret
        exact ⟨by first | rfl | rw [qq], HB.out⟩
      · have z1 : ((c.toNat : Int) % 5 == 0) = false := by rw [beq_eq_false_iff_ne]; omega
        have z2 : (c.toNat % 5 == 0) = false := by rw [beq_eq_false_iff_ne]; omega
        have MQ := Lib.hid (MP.out.resolve_left hz)
        go_wp2_with fail
        refine (match_c _ re _ _ _ _ He.out (Rx.timesL ls (c.toNat % 5)) TL.out _ MQ.out _ (tsB_list HS.out _)).mono ?_
        rintro e w9 ⟨rfl, hb⟩
        have Ha := Lib.hid (Ha.out.below hb)
        have He := Lib.hid (He.out.below hb)
        have HB := Lib.hid (HB.out.trans (hb.mono HB.out.size))
        clear hb
        go_wp2_with fail
        refine (match_c _ re _ _ _ _ He.out [] (by simp) _ M0.out _ rfl).mono ?_
        rintro e w10 ⟨rfl, hb⟩
        have Ha := Lib.hid (Ha.out.below hb)
        have HB := Lib.hid (HB.out.trans (hb.mono HB.out.size))
        clear hb
        go_wp2_with fail
        refine (match_c _ ra _ _ _ _ Ha.out [] (by simp) _ rfl _ rfl).mono ?_
        rintro e w11 ⟨rfl, hb⟩
        have HB := Lib.hid (HB.out.trans (hb.mono HB.out.size))
        clear hb
        have qq : (Rx.matchN (Rx.wrap1 P) [] == Rx.matchN (Rx.wrap1 P) []) = true := beq_self_eq_true _
        go_wp2
        go_ret
        exact ⟨by first | rfl | rw [qq], HB.out⟩
theorem times_law (p s : ByteArray) (c : UInt8) (w : World) (hT : Tab w) : Calls Tryd.prog 6 #[.string p, .string s, .int .u8 (c.toNat : Int)] w fun e w' => e = .returned (.bool true) ∧ Below w.heap.size w w' := by
  by_cases h1 : 50 < p.data.toList.length
  · exact times_p p s _ _ rfl rfl c w hT h1
  by_cases h2 : 10 < s.data.toList.length
  · exact times_s p s _ _ rfl rfl c w hT (by omega) h2
  cases hA : Rx.compileF p.data.toList with
  | bad er j => exact times_a p s _ _ rfl rfl c w hT (by omega) (by omega) er j hA
  | ok P z =>
    cases hC : Rx.compileF (Rx.par [] p.data.toList []) with
    | bad er j => exact times_c p s _ _ rfl rfl c w hT (by omega) (by omega) P z hA er j hC
    | ok Q y =>
      obtain ⟨hp1, hlv⟩ := Rx.par_of hA hC
      cases hM : Rx.matchN Q s.data.toList with
      | false => exact times_n p s _ _ rfl rfl c w hT (by omega) (by omega) P Q z y hA hC hM
      | true =>
        have e := Rx.comp_par hp1 (by omega)
        rw [hC] at e
        obtain rfl := (Rx.Res.ok.inj e).1
        exact times_f p s _ _ rfl rfl c w hT (by omega) (by omega) P z hA hp1 (by omega) hM
theorem times_law3 (p s : ByteArray) (x2 : Int) (b2 : 0 ≤ x2 ∧ x2 ≤ 255) (w : World) (hT : Tab w) : Calls Tryd.prog 6 #[.string p, .string s, .int .u8 x2] w fun e w' => e = .returned (.bool true) ∧ Below w.heap.size w w' := by
  have e2 : ((x2.toNat.toUInt8).toNat : Int) = x2 := by simp; omega
  have k := times_law p s x2.toNat.toUInt8 w hT
  rw [e2] at k
  exact k
end Go.Proofs.YtcfdpbbpdnpnnaaDoor
