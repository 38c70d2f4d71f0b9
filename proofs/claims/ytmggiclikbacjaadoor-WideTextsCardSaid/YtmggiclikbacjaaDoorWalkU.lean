/- Text: a number of 128 bits in decimal. -/
import Derived.Test.YtmggiclikbacjaaDoorWalkT
import Derived.Test.YtmggiclikbacjaaDoorWalkH
import Derived.Test.YtmggiclikbacjaaDoorMath
import Derived.Shelf.Spec.BitsCarry
namespace Go.Proofs.YtmggiclikbacjaaDoor
open Go Go.Proofs Go.RowKit Go.Lib
set_option maxRecDepth 100000

theorem sub64_any (x y b : Int) (hx : 0 ≤ x) (hy : 0 ≤ y) (hy' : y < 18446744073709551616) (hb0 : 0 ≤ b) (hb : b ≤ 1) (w : World) : (callFunc 40 #[.int .u64 x, .int .u64 y, .int .u64 b]).run Tryd.prog w =
    .ok (.value (.tuple #[.int .u64 ((x - y - b) % 18446744073709551616), .int .u64 (if x < y + b then 1 else 0)])) w := by
  obtain ⟨x, rfl⟩ := Int.eq_ofNat_of_zero_le hx
  obtain ⟨y, rfl⟩ := Int.eq_ofNat_of_zero_le hy
  obtain ⟨b, rfl⟩ := Int.eq_ofNat_of_zero_le hb0
  have e1 : (((x + 18446744073709551616 - y - b) % 18446744073709551616 : Nat) : Int) = ((x : Int) - y - b) % 18446744073709551616 := by omega
  have e2 : ((if x < y + b then 1 else 0 : Nat) : Int) = if (x : Int) < y + b then 1 else 0 := by split <;> split <;> omega
  rw [← e1, ← e2]
  rw [run_callFunc_extern Tryd.func40 (by kernel_rfl) (by kernel_rfl) (by kernel_rfl) (e := sub64Entry) (by kernel_rfl), run_sub64 x y b (by omega)]
  rfl

theorem div64_any (hi lo : Int) (q r : Nat) (h1 : 0 ≤ hi) (h2 : hi < 10000000000000000000) (l1 : 0 ≤ lo) (l2 : lo < 18446744073709551616)
    (hq : (q : Int) * 10000000000000000000 + r = hi * 18446744073709551616 + lo) (hr : r < 10000000000000000000) (w : World) :
    Calls Tryd.prog 41 #[.int .u64 hi, .int .u64 lo, .int .u64 10000000000000000000] w fun e w' => e = .returned (.tuple #[.int .u64 q, .int .u64 r]) ∧ Below w.heap.size w w' := by
  have e1 : (hi * 18446744073709551616 + lo) / 10000000000000000000 = q := by omega
  have e2 : (hi * 18446744073709551616 + lo) % 10000000000000000000 = r := by omega
  by_cases h : hi = 0
  · subst h
    have f1 : lo / 10000000000000000000 = q := by omega
    have f2 : lo % 10000000000000000000 = r := by omega
    have := div64_small lo ⟨l1, l2⟩ w
    rwa [f1, f2] at this
  · have := div64_great hi lo (by omega) h2 l1 l2 w
    rwa [e1, e2] at this

/-- r's digits, k of them -/
def pad : Nat → Nat → List UInt8
  | 0, _ => []
  | k + 1, r => pad k (r / 10) ++ [UInt8.ofNat (48 + r % 10)]
theorem decDigits_pad (k : Nat) : ∀ q r : Nat, 1 ≤ q → r < 10 ^ k → Lib.decDigits (q * 10 ^ k + r) = Lib.decDigits q ++ pad k r := by
  induction k with
  | zero => intro q r _ hr; have : r = 0 := by omega
            subst this; simp [pad]
  | succ k ih =>
    intro q r hq hr
    have hp : 10 ^ (k + 1) = 10 ^ k * 10 := Nat.pow_succ 10 k
    have h1 : q * 10 ^ (k + 1) + r = (q * 10 ^ k + r / 10) * 10 + r % 10 := by
      rw [hp, ← Nat.mul_assoc]; omega
    have hbig : ¬ (q * 10 ^ (k + 1) + r < 10) := by
      have : 1 ≤ 10 ^ k := Nat.pos_of_ne_zero (by simp)
      have : 1 * (10 ^ k * 10) ≤ q * (10 ^ k * 10) := Nat.mul_le_mul_right _ hq
      rw [hp]; omega
    rw [Lib.decDigits, dif_neg hbig]
    have d1 : (q * 10 ^ (k + 1) + r) / 10 = q * 10 ^ k + r / 10 := by rw [h1]; omega
    have d2 : (q * 10 ^ (k + 1) + r) % 10 = r % 10 := by rw [h1]; omega
    rw [d1, d2, ih q (r / 10) hq (by rw [hp] at hr; omega), pad, List.append_assoc]
theorem pad_eq (k : Nat) : ∀ r : Nat, 1 ≤ k → r < 10 ^ k → pad k r = List.replicate (k - (Lib.decDigits r).length) 48 ++ Lib.decDigits r := by
  induction k with
  | zero => intro r h _; omega
  | succ k ih =>
    intro r _ hr
    have hp : 10 ^ (k + 1) = 10 ^ k * 10 := Nat.pow_succ 10 k
    by_cases h : r < 10
    · have e : Lib.decDigits r = [UInt8.ofNat (48 + r)] := by rw [Lib.decDigits, dif_pos h]
      have z : ∀ j, pad j 0 = List.replicate j 48 := by
        intro j
        induction j with
        | zero => rfl
        | succ j ihj => rw [pad, Nat.zero_div, ihj]; exact (List.replicate_succ' (n := j) (a := (48 : UInt8))).symm
      rw [pad, Nat.div_eq_of_lt h, z, e, Nat.mod_eq_of_lt h]; rfl
    · have e : Lib.decDigits r = Lib.decDigits (r / 10) ++ [UInt8.ofNat (48 + r % 10)] := by rw [Lib.decDigits, dif_neg h]
      have hk : 1 ≤ k := by
        rcases Nat.eq_zero_or_pos k with h0 | h0
        · subst h0; simp at hr; omega
        · exact h0
      rw [pad, ih (r / 10) hk (by rw [hp] at hr; omega), e, List.append_assoc, List.length_append, List.length_singleton, Nat.add_sub_add_right]
theorem text_two (q r : Nat) (hq : 1 ≤ q) (hr : r < 10000000000000000000) :
    Lib.decDigits (q * 10000000000000000000 + r) = Lib.decDigits q ++ List.replicate (19 - (Lib.decDigits r).length) 48 ++ Lib.decDigits r := by
  have h := decDigits_pad 19 q r hq (by simpa using hr)
  rw [pad_eq 19 r (by omega) (by simpa using hr)] at h
  simpa [List.append_assoc] using h
theorem len_pow : ∀ k r : Nat, 1 ≤ k → r < 10 ^ k → (Lib.decDigits r).length ≤ k := by
  have h : ∀ k r : Nat, 1 ≤ k → r < 10 ^ k → (Lib.decDigits r).length ≤ k := by
    intro k
    induction k with
    | zero => intro r h _; omega
    | succ k ih =>
      intro r _ hr
      rw [Lib.decDigits]
      split
      · simp
      · rename_i h
        have hp : 10 ^ (k + 1) = 10 ^ k * 10 := Nat.pow_succ 10 k
        have hk : 1 ≤ k := by
          rcases Nat.eq_zero_or_pos k with h0 | h0
          · subst h0; simp at hr; omega
          · exact h0
        have := ih (r / 10) hk (by rw [hp] at hr; omega)
        simp; omega
  exact h
theorem len19 (r : Nat) (hr : r < 10000000000000000000) : (Lib.decDigits r).length ≤ 19 := len_pow 19 r (by omega) (by simpa using hr)
theorem len20 (r : Nat) (hr : r < 18446744073709551616) : (Lib.decDigits r).length ≤ 20 := len_pow 20 r (by omega) (by simpa using (show r < 100000000000000000000 by omega))
theorem bapp (a b : List UInt8) : (⟨a.toArray⟩ : ByteArray) ++ ⟨b.toArray⟩ = ⟨(a ++ b).toArray⟩ := by
  apply ByteArray.ext
  simp
theorem bapp0 (b : List UInt8) : (⟨#[]⟩ : ByteArray) ++ ⟨b.toArray⟩ = ⟨b.toArray⟩ := bapp [] b
theorem bapp1 (c : UInt8) (b : List UInt8) : (⟨#[c]⟩ : ByteArray) ++ ⟨b.toArray⟩ = ⟨(c :: b).toArray⟩ := bapp [c] b
theorem rep0 (c : Nat) : Lib.repeatL [48] c = List.replicate c (48 : UInt8) := by
  induction c with
  | zero => rfl
  | succ c ih => rw [Lib.repeatL, ih]; rfl
theorem repeat0_any (c : Nat) (hc : c ≤ 19) (w : World) :
    Calls Tryd.prog 43 #[.string ⟨#[48]⟩, .int .i64 c] w fun e w' => e = .returned (.string ⟨(List.replicate c (48 : UInt8)).toArray⟩) ∧ Below w.heap.size w w' := by
  refine (Tryd.strings_Repeat ⟨#[48]⟩ c w (by omega) (by show 1 * c ≤ _; omega)).mono fun _ _ h => ⟨h.1.trans ?_, h.2⟩
  show Ending.returned (.string ⟨(Lib.repeatL [48] c).toArray⟩) = _
  rw [rep0]

/-- Sub64's borrow out of nought. -/
def bor (l : Int) : Int := if 0 < l then 1 else 0

/-- Text, of a number that is not below nought. -/
theorem Text_pos (h l : Int) (i : InI h l) (hp : 0 ≤ h) (w : World) (ht : Tab w) :
    Calls Tryd.prog 19 #[.agg #[.int .i64 h, .int .u64 l]] w fun e w' => e = .returned (.string ⟨(Lib.itoa (val h l)).toArray⟩) ∧ Below w.heap.size w w' := by
  obtain ⟨i1, i2, i3, i4⟩ := i
  obtain ⟨M, hM⟩ : ∃ M : Nat, (M : Int) = val h l := ⟨(val h l).toNat, by unfold val; omega⟩
  obtain ⟨q, r, hq, hr⟩ : ∃ q r : Nat, q * 10000000000000000000 + r = M ∧ r < 10000000000000000000 := ⟨M / 10000000000000000000, M % 10000000000000000000, by omega, by omega⟩
  have hq64 : q < 18446744073709551616 := by unfold val at hM; omega
  have D := Lib.hid (fun W => div64_any h l q r hp (by omega) i3 i4 (by unfold val at hM; omega) hr W)
  have I := Lib.hid (show Lib.itoa (val h l) = Lib.decDigits (q * 10000000000000000000 + r) by rw [← hM, ← hq]; exact Lib.itoa_nonneg _)
  have hn : ¬ h < 0 := by omega
  have wh : IntKind.u64.wrap h = h := by rw [IntKind.wrap_u64]; omega
  have FQ := Lib.hid (fun (W : World) (hT : Tab W) => fmtUint_any q hq64 W hT)
  have FR := Lib.hid (fun (W : World) (hT : Tab W) => fmtUint_any r (by omega) W hT)
  have hlen := len19 r hr
  have hlenq := len20 q hq64
  have HT := Lib.hid ht
  have HR := Lib.hid hr
  clear hq64 hr hM hq i3 i4 i1 i2 ht hp
  by_cases hq0 : q = 0
  · subst hq0
    go_enter Tryd.func19, Tryd.ntmps19
    go_wp2_with fail
    go_quiet (fail)
    go_wp2_with fail
    refine (D.out _).mono ?_
    rintro e w1 ⟨rfl, hb⟩
    have hB1 : Below w.heap.size w w1 := Below.trans (below_drewN (by go_grown) _) (hb.mono (by simp))
    clear hb
    go_wp2_with fail
    refine (FR.out _ (HT.out.below hB1)).mono ?_
    rintro e w2 ⟨rfl, hb⟩
    have hB2 : Below w.heap.size w w2 := hB1.trans (hb.mono hB1.size)
    clear hb hB1
    go_wp2
    go_ret
    refine ⟨congrArg Ending.returned ?_, hB2⟩
    rw [I.out, Nat.zero_mul, Nat.zero_add]
    show Value.string (⟨#[]⟩ ++ ⟨(Lib.decDigits r).toArray⟩) = _
    rw [bapp0]
  · have hq1 : ((q : Int) == 0) = false := by rw [beq_eq_false_iff_ne]; omega
    go_enter Tryd.func19, Tryd.ntmps19
    go_wp2_with fail
    go_quiet (fail)
    go_wp2_with fail
    refine (D.out _).mono ?_
    rintro e w1 ⟨rfl, hb⟩
    have hB1 : Below w.heap.size w w1 := Below.trans (below_drewN (by go_grown) _) (hb.mono (by simp))
    clear hb
    go_wp2_with fail
    refine (FR.out _ (HT.out.below hB1)).mono ?_
    rintro e w2 ⟨rfl, hb⟩
    have hB2 : Below w.heap.size w w2 := hB1.trans (hb.mono hB1.size)
    clear hb hB1
    go_wp2_with fail
    refine (FQ.out _ (HT.out.below hB2)).mono ?_
    rintro e w3 ⟨rfl, hb⟩
    have hB3 : Below w.heap.size w w3 := hB2.trans (hb.mono hB2.size)
    clear hb hB2
    have ec : (19 : Int) - ((Lib.decDigits r).length : Int) = ((19 - (Lib.decDigits r).length : Nat) : Int) := by omega
    go_wp2_with fail
    refine (repeat0_any _ (by omega) _).mono ?_
    rintro e w4 ⟨rfl, hb⟩
    have hB4 : Below w.heap.size w w4 := hB3.trans (hb.mono hB3.size)
    clear hb hB3
    go_wp2
    go_ret
    refine ⟨congrArg Ending.returned ?_, hB4⟩
    rw [I.out, text_two q r (by omega) HR.out]
    show Value.string (⟨#[]⟩ ++ ⟨(Lib.decDigits q).toArray⟩ ++ ⟨(List.replicate (19 - (Lib.decDigits r).length) (48 : UInt8)).toArray⟩ ++ ⟨(Lib.decDigits r).toArray⟩) = _
    rw [bapp0, bapp, bapp]
    all_goals simp

/-- Text, of a number that is below nought. -/
theorem Text_neg (h l : Int) (i : InI h l) (hp : h < 0) (w : World) (ht : Tab w) :
    Calls Tryd.prog 19 #[.agg #[.int .i64 h, .int .u64 l]] w fun e w' => e = .returned (.string ⟨(Lib.itoa (val h l)).toArray⟩) ∧ Below w.heap.size w w' := by
  obtain ⟨i1, i2, i3, i4⟩ := i
  obtain ⟨M, hM⟩ : ∃ M : Nat, (M : Int) = -val h l := ⟨(-val h l).toNat, by unfold val; omega⟩
  obtain ⟨q, r, hq, hr⟩ : ∃ q r : Nat, q * 10000000000000000000 + r = M ∧ r < 10000000000000000000 := ⟨M / 10000000000000000000, M % 10000000000000000000, by omega, by omega⟩
  have hq64 : q < 18446744073709551616 := by unfold val at hM; omega
  obtain ⟨H, hH⟩ : ∃ H : Int, H = (-val h l) / 18446744073709551616 := ⟨_, rfl⟩
  obtain ⟨L, hL⟩ : ∃ L : Int, L = (-val h l) % 18446744073709551616 := ⟨_, rfl⟩
  have D := Lib.hid (fun W => div64_any H L q r (by unfold val at *; omega) (by unfold val at *; omega) (by omega) (by omega) (by omega) hr W)
  have I := Lib.hid (show Lib.itoa (val h l) = 45 :: Lib.decDigits (q * 10000000000000000000 + r) by rw [show val h l = -((q * 10000000000000000000 + r : Nat) : Int) by omega]; exact Lib.itoa_neg _ (by unfold val at hM; omega))
  have hn : h < 0 := hp
  have hs1 : ∀ W, (callFunc 40 #[.int .u64 0, .int .u64 l, .int .u64 0]).run Tryd.prog W = .ok (.value (.tuple #[.int .u64 L, .int .u64 (bor l)])) W := fun W => by
    rw [sub64_any 0 l 0 (by omega) i3 i4 (by omega) (by omega) W]
    have e1 : (0 - l - 0) % 18446744073709551616 = L := by unfold val at hL; omega
    have e2 : (if (0 : Int) < l + 0 then (1 : Int) else 0) = bor l := by unfold bor; rw [Int.add_zero]
    rw [e1, e2]
  have hs2 : ∀ W, (callFunc 40 #[.int .u64 0, .int .u64 (h + 18446744073709551616), .int .u64 (bor l)]).run Tryd.prog W = .ok (.value (.tuple #[.int .u64 H, .int .u64 1])) W := fun W => by
    have b0 : 0 ≤ bor l ∧ bor l ≤ 1 := by unfold bor; split <;> omega
    rw [sub64_any 0 (h + 18446744073709551616) (bor l) (by omega) (by omega) (by omega) b0.1 b0.2 W]
    have e1 : (0 - (h + 18446744073709551616) - bor l) % 18446744073709551616 = H := by unfold val at hH; unfold bor; split <;> omega
    rw [e1, if_pos (by omega)]
  have wh : IntKind.u64.wrap h = h + 18446744073709551616 := by rw [IntKind.wrap_u64]; omega
  clear hH hL
  have FQ := Lib.hid (fun (W : World) (hT : Tab W) => fmtUint_any q hq64 W hT)
  have FR := Lib.hid (fun (W : World) (hT : Tab W) => fmtUint_any r (by omega) W hT)
  have hlen := len19 r hr
  have hlenq := len20 q hq64
  have HT := Lib.hid ht
  have HR := Lib.hid hr
  clear hq64 hr hM hq i3 i4 i1 i2 ht hp
  by_cases hq0 : q = 0
  · subst hq0
    go_enter Tryd.func19, Tryd.ntmps19
    go_wp2_with fail
    go_quiet (fail)
    go_wp2_with fail
    refine (D.out _).mono ?_
    rintro e w1 ⟨rfl, hb⟩
    have hB1 : Below w.heap.size w w1 := Below.trans (below_drewN (by go_grown) _) (hb.mono (by simp))
    clear hb
    go_wp2_with fail
    refine (FR.out _ (HT.out.below hB1)).mono ?_
    rintro e w2 ⟨rfl, hb⟩
    have hB2 : Below w.heap.size w w2 := hB1.trans (hb.mono hB1.size)
    clear hb hB1
    go_wp2
    go_ret
    refine ⟨congrArg Ending.returned ?_, hB2⟩
    rw [I.out, Nat.zero_mul, Nat.zero_add]
    show Value.string (⟨#[45]⟩ ++ ⟨(Lib.decDigits r).toArray⟩) = _
    rw [bapp1]
  · have hq1 : ((q : Int) == 0) = false := by rw [beq_eq_false_iff_ne]; omega
    go_enter Tryd.func19, Tryd.ntmps19
    go_wp2_with fail
    go_quiet (fail)
    go_wp2_with fail
    refine (D.out _).mono ?_
    rintro e w1 ⟨rfl, hb⟩
    have hB1 : Below w.heap.size w w1 := Below.trans (below_drewN (by go_grown) _) (hb.mono (by simp))
    clear hb
    go_wp2_with fail
    refine (FR.out _ (HT.out.below hB1)).mono ?_
    rintro e w2 ⟨rfl, hb⟩
    have hB2 : Below w.heap.size w w2 := hB1.trans (hb.mono hB1.size)
    clear hb hB1
    go_wp2_with fail
    refine (FQ.out _ (HT.out.below hB2)).mono ?_
    rintro e w3 ⟨rfl, hb⟩
    have hB3 : Below w.heap.size w w3 := hB2.trans (hb.mono hB2.size)
    clear hb hB2
    have ec : (19 : Int) - ((Lib.decDigits r).length : Int) = ((19 - (Lib.decDigits r).length : Nat) : Int) := by omega
    go_wp2_with fail
    refine (repeat0_any _ (by omega) _).mono ?_
    rintro e w4 ⟨rfl, hb⟩
    have hB4 : Below w.heap.size w w4 := hB3.trans (hb.mono hB3.size)
    clear hb hB3
    go_wp2
    go_ret
    refine ⟨congrArg Ending.returned ?_, hB4⟩
    rw [I.out, text_two q r (by omega) HR.out]
    show Value.string (⟨#[45]⟩ ++ ⟨(Lib.decDigits q).toArray⟩ ++ ⟨(List.replicate (19 - (Lib.decDigits r).length) (48 : UInt8)).toArray⟩ ++ ⟨(Lib.decDigits r).toArray⟩) = _
    rw [bapp1, bapp, bapp]
    all_goals simp

/-- Text: a number of 128 bits in decimal. -/
theorem Text_any (h l : Int) (i : InI h l) (w : World) (ht : Tab w) :
    Calls Tryd.prog 19 #[.agg #[.int .i64 h, .int .u64 l]] w fun e w' => e = .returned (.string ⟨(Lib.itoa (val h l)).toArray⟩) ∧ Below w.heap.size w w' := by
  by_cases hp : h < 0
  · exact Text_neg h l i hp w ht
  · exact Text_pos h l i (by omega) w ht
end Go.Proofs.YtmggiclikbacjaaDoor
