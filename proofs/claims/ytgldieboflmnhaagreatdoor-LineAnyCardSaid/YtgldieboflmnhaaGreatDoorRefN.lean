/- belfryref9: Name, Printable, Value. -/
import Derived.Test.YtgldieboflmnhaaGreatDoorValue
import Derived.LoopTactic
namespace Go.Proofs.YtgldieboflmnhaaGreatDoor
open Go Go.Proofs Go.RowKit Go.Shelf
set_option maxRecDepth 100000
theorem printable_at (s : ByteArray) (l : List UInt8) (hud : s.data.toList = l) (hl : l.length ≤ 9223372036854775807) (w : World) :
    Calls Tryz.prog 50 #[.string s] w fun e w' => e = .returned (.bool (!l.any badB)) ∧ w = w' := by
  have hsz : s.size = l.length := by rw [Lib.size_eq, hud]
  have HU := Lib.hid hud
  clear hud
  go_enter Tryz.func50, Tryz.ntmps50
  go_wp2
  go_loop [3] (fun i => ∃ k : Nat, k ≤ l.length ∧ i = .int .i64 (k : Int) ∧ (l.take k).any badB = false) (fun i => l.length - (intOf i).toNat)
  case atStart => exact ⟨0, Nat.zero_le _, rfl, rfl⟩
  case round =>
    obtain ⟨k, hk, rfl, hP⟩ := hrel
    by_cases hlt : k < l.length
    · have hi : k < s.size := by omega
      obtain ⟨c, hc⟩ : ∃ c : UInt8, s[k]'hi = c := ⟨_, rfl⟩
      have hcl : l[k]? = some c := by rw [← HU.out, ← hc]; exact Lib.data_getElem? s k hi
      obtain ⟨hn, he⟩ := List.getElem?_eq_some_iff.1 hcl
      have hsn : (l.take (k + 1)).any badB = badB c := by rw [List.take_succ_eq_append_getElem hn, he, List.any_append, hP]; simp
      have h0 : (0 : Int) ≤ (k : Int) := by omega
      have h1 : (k : Int) < (s.size : Int) := by omega
      have hbd : badB c = (decide (c.toNat < 32) || decide (126 < c.toNat)) := rfl
      have hin : c ∈ l := List.mem_of_getElem? hcl
      have SN := Lib.hid hsn
      have PP := Lib.hid hP
      have BD := Lib.hid hbd
      have IN := Lib.hid hin
      clear hsn hP hcl he hbd hin
      by_cases q1 : c.toNat < 32
      · have d1 : decide ((c.toNat : Int) < 32) = true := by rw [decide_eq_true_eq]; omega
        go_wp2
        go_ret
        exact ⟨by rw [List.any_eq_true.2 ⟨c, IN.out, by rw [BD.out, decide_eq_true q1]; rfl⟩]; rfl, rfl⟩
      · have d1 : decide ((c.toNat : Int) < 32) = false := by rw [decide_eq_false_iff_not]; omega
        by_cases q2 : 126 < c.toNat
        · have d2 : decide ((126 : Int) < (c.toNat : Int)) = true := by rw [decide_eq_true_eq]; omega
          go_wp2
          go_ret
          exact ⟨by rw [List.any_eq_true.2 ⟨c, IN.out, by rw [BD.out, decide_eq_true q2, Bool.or_true]⟩]; rfl, rfl⟩
        · have d2 : decide ((126 : Int) < (c.toNat : Int)) = false := by rw [decide_eq_false_iff_not]; omega
          go_wp2
          go_round
          case rel => exact ⟨k + 1, by omega, by go_num, by rw [SN.out, BD.out, decide_eq_false q1, decide_eq_false q2]; rfl⟩
          case measure => simp [intOf]; omega
    · obtain rfl : k = l.length := by omega
      have h1 : ¬ (l.length : Int) < (s.size : Int) := by omega
      rw [List.take_length] at hP
      have PP := Lib.hid hP
      clear hP
      go_wp2
      go_ret
      exact ⟨by rw [PP.out]; rfl, rfl⟩
theorem rvalue_any (l : List UInt8) (hl : l.length ≤ 9223372036854775807) (w : World) :
    Calls Tryz.prog 34 #[.string ⟨l.toArray⟩] w fun e w' => e = .returned (.bool (valueR l)) ∧ w = w' := by
  have hsz : (⟨l.toArray⟩ : ByteArray).size = l.length := rfl
  have C := Lib.hid (fun W => printable_at ⟨l.toArray⟩ l rfl hl W)
  have R : Hid (valueR l = (!l.isEmpty && decide (l.length ≤ 64) && !l.any badB)) := rfl
  by_cases h0 : l.length = 0
  · obtain rfl : l = [] := List.eq_nil_of_length_eq_zero h0
    go_enter Tryz.func34, Tryz.ntmps34
    go_wp2
    go_ret
    exact ⟨rfl, rfl⟩
  · have h1 : (1 : Int) ≤ (l.length : Int) := by omega
    have hemp : l.isEmpty = false := by cases l with | nil => simp at h0 | cons _ _ => rfl
    by_cases h64 : l.length ≤ 64
    · have h2 : (l.length : Int) ≤ 64 := by omega
      have R2 : Hid (valueR l = !l.any badB) := by unfold Hid; rw [R.out, hemp, decide_eq_true h64]; simp
      clear R h0 hemp
      generalize l.any badB = b at *
      go_enter Tryz.func34, Tryz.ntmps34
      go_wp2_with fail
      refine (C.out _).mono ?_
      rintro e w1 ⟨rfl, rfl⟩
      go_wp2
      go_ret
      exact ⟨by rw [R2.out]; rfl, rfl⟩
    · have h2 : ¬ (l.length : Int) ≤ 64 := by omega
      have R2 : Hid (valueR l = false) := by unfold Hid; rw [R.out, decide_eq_false h64]; simp
      clear R h0 hemp
      go_enter Tryz.func34, Tryz.ntmps34
      go_wp2
      go_ret
      exact ⟨by rw [R2.out]; rfl, rfl⟩
theorem isWord_iff (c : UInt8) : isWord c = !(((decide (c.toNat < 97) || decide (122 < c.toNat)) && (decide (c.toNat < 48) || decide (57 < c.toNat))) && !(decide (c.toNat = 95))) := by
  have h : ∀ n : Fin 256, isWord (UInt8.ofNat n.val) = !(((decide ((UInt8.ofNat n.val).toNat < 97) || decide (122 < (UInt8.ofNat n.val).toNat)) && (decide ((UInt8.ofNat n.val).toNat < 48) || decide (57 < (UInt8.ofNat n.val).toNat))) && !(decide ((UInt8.ofNat n.val).toNat = 95))) := by decide +kernel
  have := h ⟨c.toNat, c.toNat_lt⟩
  rwa [UInt8.ofNat_toNat] at this
theorem isLet_iff (c : UInt8) (h : isWord c = true) : isLet c = !(decide (48 ≤ c.toNat) && decide (c.toNat ≤ 57)) := by
  have g : ∀ n : Fin 256, isWord (UInt8.ofNat n.val) = true → isLet (UInt8.ofNat n.val) = !(decide (48 ≤ (UInt8.ofNat n.val).toNat) && decide ((UInt8.ofNat n.val).toNat ≤ 57)) := by decide +kernel
  have := g ⟨c.toNat, c.toNat_lt⟩
  rw [show UInt8.ofNat (⟨c.toNat, c.toNat_lt⟩ : Fin 256).val = c from UInt8.ofNat_toNat] at this
  exact this h
set_option maxHeartbeats 1000000 in
theorem rname_at (s : ByteArray) (l : List UInt8) (hud : s.data.toList = l) (hl : l.length ≤ 9223372036854775807) (w : World) :
    Calls Tryz.prog 33 #[.string s] w fun e w' => e = .returned (.bool (nameR l)) ∧ w = w' := by
  have hsz : s.size = l.length := by rw [Lib.size_eq, hud]
  rcases l with _ | ⟨c0, t⟩
  · have hs0 : (s.size : Int) < 1 := by rw [hsz]; decide
    go_enter Tryz.func33, Tryz.ntmps33
    go_wp2
    go_ret
    exact ⟨rfl, rfl⟩
  have hR : nameR (c0 :: t) = (decide ((c0 :: t).length ≤ 16) && isLet c0 && (c0 :: t).all isWord) := rfl
  have hpos : 0 < (c0 :: t).length := by simp
  have h0w : (c0 :: t)[0]? = some c0 := rfl
  obtain ⟨l, hll⟩ : ∃ l, c0 :: t = l := ⟨_, rfl⟩
  rw [hll] at hud hl hsz hR hpos h0w ⊢
  clear hll
  have hs1 : ¬ (s.size : Int) < 1 := by omega
  by_cases h16 : 16 < l.length
  · have h2 : (16 : Int) < (s.size : Int) := by omega
    have HR : Hid (nameR l = false) := by unfold Hid; rw [hR, decide_eq_false (by omega)]; rfl
    clear hR hud h0w
    go_enter Tryz.func33, Tryz.ntmps33
    go_wp2
    go_ret
    exact ⟨by rw [HR.out]; rfl, rfl⟩
  have h2 : ¬ (16 : Int) < (s.size : Int) := by omega
  have hi0 : 0 < s.size := by omega
  have hc0 : s[0]'hi0 = c0 := by
    have := Lib.data_getElem? s 0 hi0
    rw [hud, h0w] at this
    exact (Option.some.inj this).symm
  have HU := Lib.hid hud
  have HR := Lib.hid hR
  by_cases hdig : 48 ≤ c0.toNat ∧ c0.toNat ≤ 57
  · have d1 : decide ((48 : Int) ≤ (c0.toNat : Int)) = true := by rw [decide_eq_true_eq]; omega
    have d2 : decide ((c0.toNat : Int) ≤ 57) = true := by rw [decide_eq_true_eq]; omega
    have HN : Hid (nameR l = false) := by
      unfold Hid; rw [hR, show isLet c0 = false from by unfold isLet; simp; omega]; simp
    clear hR hud h0w
    go_enter Tryz.func33, Tryz.ntmps33
    go_wp2
    go_ret
    exact ⟨by rw [HN.out]; rfl, rfl⟩
  have hdg : (decide ((48 : Int) ≤ (c0.toNat : Int)) && decide ((c0.toNat : Int) ≤ 57)) = false := by
    rw [Bool.and_eq_false_iff, decide_eq_false_iff_not, decide_eq_false_iff_not]; omega
  -- behind the first test: all of the word, or none
  have NO : Hid (∀ c ∈ l, isWord c = false → nameR l = false) := by
    intro c hc hw
    rw [hR]
    have : l.all isWord = false := by rw [List.all_eq_false]; exact ⟨c, hc, by rw [hw]; simp⟩
    rw [this]; simp
  have YES : Hid (l.all isWord = true → nameR l = true) := by
    intro h
    have hin : c0 ∈ l := List.mem_of_getElem? h0w
    have hw := List.all_eq_true.1 h c0 hin
    rw [hR, h, isLet_iff c0 hw, decide_eq_true (by omega)]
    have : (decide (48 ≤ c0.toNat) && decide (c0.toNat ≤ 57)) = false := by
      rw [Bool.and_eq_false_iff, decide_eq_false_iff_not, decide_eq_false_iff_not]; omega
    rw [this]; rfl
  clear hR hud h0w HR
  by_cases hq : 48 ≤ c0.toNat
  all_goals
    have d1 : decide ((48 : Int) ≤ (c0.toNat : Int)) = decide (48 ≤ c0.toNat) := by rw [decide_eq_decide]; omega
    have d2 : decide ((c0.toNat : Int) ≤ 57) = decide (c0.toNat ≤ 57) := by rw [decide_eq_decide]; omega
    first | rw [decide_eq_true hq] at d1 | rw [decide_eq_false hq] at d1
    (try rw [decide_eq_false (show ¬ c0.toNat ≤ 57 by omega)] at d2)
    clear hdig hdg
    go_enter Tryz.func33, Tryz.ntmps33
    go_wp2
    go_loop [3] (fun i => ∃ k : Nat, k ≤ l.length ∧ i = .int .i64 (k : Int) ∧ (l.take k).all isWord = true) (fun i => l.length - (intOf i).toNat)
    case atStart => exact ⟨0, Nat.zero_le _, rfl, rfl⟩
    case round =>
      obtain ⟨k, hk, rfl, hP⟩ := hrel
      by_cases hlt : k < l.length
      · have hi : k < s.size := by omega
        obtain ⟨c, hc⟩ : ∃ c : UInt8, s[k]'hi = c := ⟨_, rfl⟩
        have hcl : l[k]? = some c := by rw [← HU.out, ← hc]; exact Lib.data_getElem? s k hi
        obtain ⟨hn, he⟩ := List.getElem?_eq_some_iff.1 hcl
        have hsn : (l.take (k + 1)).all isWord = isWord c := by rw [List.take_succ_eq_append_getElem hn, he, List.all_append, hP]; simp
        have h0 : (0 : Int) ≤ (k : Int) := by omega
        have h1 : (k : Int) < (s.size : Int) := by omega
        have hwi := isWord_iff c
        have hin : c ∈ l := List.mem_of_getElem? hcl
        have SN := Lib.hid hsn
        have WI := Lib.hid hwi
        have IN := Lib.hid hin
        clear hsn hP hcl he hwi hin d1 d2 hc0
        rcases Nat.lt_or_ge c.toNat 97 with q | q
        · rcases Nat.lt_or_ge c.toNat 48 with q2 | q2
          · skip
            have da : decide ((c.toNat : Int) < 97) = true := by rw [decide_eq_true_eq]; omega
            have dd : decide ((c.toNat : Int) < 48) = true := by rw [decide_eq_true_eq]; omega
            have df : ((c.toNat : Int) != 95) = true := by rw [bne_iff_ne]; omega
            go_wp2
            go_ret
            exact ⟨by rw [NO.out c IN.out (by rw [WI.out]; simp; omega)]; rfl, rfl⟩
          rcases Nat.lt_or_ge 57 c.toNat with q3 | q3
          rotate_left
          · skip
            have da : decide ((c.toNat : Int) < 97) = true := by rw [decide_eq_true_eq]; omega
            have dd : decide ((c.toNat : Int) < 48) = false := by rw [decide_eq_false_iff_not]; omega
            have de : decide ((57 : Int) < (c.toNat : Int)) = false := by rw [decide_eq_false_iff_not]; omega
            go_wp2
            go_round
            case rel => exact ⟨k + 1, by omega, by go_num, by rw [SN.out, WI.out]; simp; omega⟩
            case measure => simp [intOf]; omega
          by_cases q4 : c.toNat = 95
          · skip
            have da : decide ((c.toNat : Int) < 97) = true := by rw [decide_eq_true_eq]; omega
            have dd : decide ((c.toNat : Int) < 48) = false := by rw [decide_eq_false_iff_not]; omega
            have de : decide ((57 : Int) < (c.toNat : Int)) = true := by rw [decide_eq_true_eq]; omega
            have df : ((c.toNat : Int) != 95) = false := by rw [bne_eq_false_iff_eq]; omega
            go_wp2
            go_round
            case rel => exact ⟨k + 1, by omega, by go_num, by rw [SN.out, WI.out]; simp; omega⟩
            case measure => simp [intOf]; omega
          skip
          have da : decide ((c.toNat : Int) < 97) = true := by rw [decide_eq_true_eq]; omega
          have dd : decide ((c.toNat : Int) < 48) = false := by rw [decide_eq_false_iff_not]; omega
          have de : decide ((57 : Int) < (c.toNat : Int)) = true := by rw [decide_eq_true_eq]; omega
          have df : ((c.toNat : Int) != 95) = true := by rw [bne_iff_ne]; omega
          go_wp2
          go_ret
          exact ⟨by rw [NO.out c IN.out (by rw [WI.out]; simp; omega)]; rfl, rfl⟩
        · rcases Nat.lt_or_ge 122 c.toNat with q2 | q2
          · skip
            have da : decide ((c.toNat : Int) < 97) = false := by rw [decide_eq_false_iff_not]; omega
            have db : decide ((122 : Int) < (c.toNat : Int)) = true := by rw [decide_eq_true_eq]; omega
            have dd : decide ((c.toNat : Int) < 48) = false := by rw [decide_eq_false_iff_not]; omega
            have de : decide ((57 : Int) < (c.toNat : Int)) = true := by rw [decide_eq_true_eq]; omega
            have df : ((c.toNat : Int) != 95) = true := by rw [bne_iff_ne]; omega
            go_wp2
            go_ret
            exact ⟨by rw [NO.out c IN.out (by rw [WI.out]; simp; omega)]; rfl, rfl⟩
          skip
          have da : decide ((c.toNat : Int) < 97) = false := by rw [decide_eq_false_iff_not]; omega
          have db : decide ((122 : Int) < (c.toNat : Int)) = false := by rw [decide_eq_false_iff_not]; omega
          go_wp2
          go_round
          case rel => exact ⟨k + 1, by omega, by go_num, by rw [SN.out, WI.out]; simp; omega⟩
          case measure => simp [intOf]; omega
      · obtain rfl : k = l.length := by omega
        have h1 : ¬ (l.length : Int) < (s.size : Int) := by omega
        rw [List.take_length] at hP
        have PP := Lib.hid hP
        clear hP
        go_wp2
        go_ret
        exact ⟨by rw [YES.out PP.out]; rfl, rfl⟩
theorem rname_any (l : List UInt8) (hl : l.length ≤ 9223372036854775807) (w : World) :
    Calls Tryz.prog 33 #[.string ⟨l.toArray⟩] w fun e w' => e = .returned (.bool (nameR l)) ∧ w = w' := rname_at ⟨l.toArray⟩ l rfl hl w
end Go.Proofs.YtgldieboflmnhaaGreatDoor
