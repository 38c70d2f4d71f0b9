/- regex's sets: four words of 64 bits. -/
import Derived.Test.YthdoniefjmphaaaGreatDoorProg
import Derived.Test.YthdoniefjmphaaaGreatDoorAt
import Derived.Shelf.Abstract
import Derived.WalkKit
import Derived.Tactics
import Derived.Tactics2
import Derived.Handy
import Derived.KernelRfl
import Derived.WalkSpells
import Derived.Lib.Hide
import Derived.LoopTactic
import Derived.Laws.Bits64b
import Derived.RangeFuncNested
import Derived.Deep.RegionHeld3
import Derived.Lib.Strings
import Derived.Lib.IndexBytes
import Derived.Deep.DeepCutAuto
import Derived.Deep.QuietTactic
import Derived.BigQuiet
import Derived.Outline
import Derived.WalkLawsBesides
import Derived.BigRegion
namespace Go.Proofs.YthdoniefjmphaaaGreatDoor
open Go Go.Proofs Go.RowKit Go.Shelf
set_option maxRecDepth 100000
def wordN (m i : Nat) : Nat := m / 2 ^ (64 * i) % 2 ^ 64
def word (m i : Nat) : Int := (wordN m i : Int)
def setV (m : Nat) : Value := .agg #[.int .u64 (word m 0), .int .u64 (word m 1), .int .u64 (word m 2), .int .u64 (word m 3)]
theorem wordN_lt (m i : Nat) : wordN m i < 18446744073709551616 := Nat.mod_lt _ (by decide)
theorem wordN_bit (m q r : Nat) (hr : r < 64) : (wordN m q).testBit r = m.testBit (64 * q + r) := by
 unfold wordN;rw [Nat.testBit_mod_two_pow, decide_eq_true hr, Bool.true_and, Nat.testBit_div_two_pow, Nat.add_comm]
theorem word_bit (m q r : Nat) (hr : r < 64) : (bits BinOp.and IntKind.u64 (word m q / 2 ^ r) 1 == 1) = m.testBit (64 * q + r) := by
 have hlt : wordN m q / 2 ^ r < 18446744073709551616 := Nat.lt_of_le_of_lt (Nat.div_le_self _ _) (wordN_lt m q);have h := bits_and_u64_nat (wordN m q / 2 ^ r) 1 hlt (by decide);have e : ((wordN m q / 2 ^ r : Nat) : Int) = word m q / 2 ^ r := by unfold word; simp
 rw [e] at h;have h1 : ((1 : Nat) : Int) = 1 := rfl;rw [h1] at h;rw [h, ← wordN_bit m q r hr, Nat.testBit_eq_decide_div_mod_eq, Nat.and_one_is_mod];by_cases hb : wordN m q / 2 ^ r % 2 = 1
 ·
  rw [hb]; rfl
 ·
  have : wordN m q / 2 ^ r % 2 = 0 := by omega
  rw [this]; rfl
theorem word_or (m q r : Nat) (hr : r < 64) : bits BinOp.or IntKind.u64 (word m q) (IntKind.u64.wrap (2 ^ r)) = ((wordN m q ||| 2 ^ r : Nat) : Int) := by
 have hlt : 2 ^ r < 18446744073709551616 := by
  have : 2 ^ r < 2 ^ 64 := Nat.pow_lt_pow_right (by decide) hr;exact this
 have h := bits_or_u64_nat (wordN m q) (2 ^ r) (wordN_lt m q) hlt;have e : ((2 ^ r : Nat) : Int) = 2 ^ r := by simp
 rw [e] at h;have ew : IntKind.u64.wrap (2 ^ r) = 2 ^ r := by
  have h2 : ((2 ^ r : Nat) : Int) < ((18446744073709551616 : Nat) : Int) := Int.ofNat_lt.2 hlt;have h3 : (0 : Int) ≤ ((2 ^ r : Nat) : Int) := Int.natCast_nonneg _;rw [e] at h2 h3;rw [IntKind.wrap_u64];exact Int.emod_eq_of_lt h3 h2
 rw [ew];exact h
theorem word_put (m x i : Nat) (h : x / 64 ≠ i) (hp : wordN (m ||| 2 ^ x) i = if x / 64 = i then wordN m i ||| 2 ^ (x % 64) else wordN m i) : word (m ||| 2 ^ x) i = word m i := by
 unfold word; rw [hp, if_neg h]
theorem wordN_put (m x i : Nat) : wordN (m ||| 2 ^ x) i = if x / 64 = i then wordN m i ||| 2 ^ (x % 64) else wordN m i := by
 apply Nat.eq_of_testBit_eq;intro j;by_cases hj : j < 64
 ·
  rw [wordN_bit _ _ _ hj, Nat.testBit_or, Nat.testBit_two_pow];split
  ·
   rename_i h
   rw [Nat.testBit_or, wordN_bit _ _ _ hj, Nat.testBit_two_pow];congr 1
   rw [decide_eq_decide];omega
  ·
   rename_i h
   rw [wordN_bit _ _ _ hj, decide_eq_false (by omega), Bool.or_false]
 ·
  have big : ∀ a : Nat, a < 18446744073709551616 → a.testBit j = false := fun a ha => Nat.testBit_lt_two_pow (Nat.lt_of_lt_of_le (show a < 2 ^ 64 from ha) (Nat.pow_le_pow_right (by decide) (by omega)))
  rw [big _ (wordN_lt _ _)];split
  ·
   have h2 : 2 ^ (x % 64) < 2 ^ 64 := Nat.pow_lt_pow_right (by decide) (by omega);exact (big _ (Nat.or_lt_two_pow (n := 64) (wordN_lt m i) h2)).symm
  ·
   exact (big _ (wordN_lt _ _)).symm
theorem shas_any (m x : Nat) (hx : x < 256) (w : World) :
  Calls Tryz.prog 81 #[setV m, .int .u8 (x : Int)] w fun e w' => e = .returned (.bool (m.testBit x)) ∧ Below w.heap.size w w' := by
 have hr : x % 64 < 64 := Nat.mod_lt _ (by decide);have H := word_bit m (x / 64) (x % 64) hr;rw [Nat.div_add_mod] at H;have H := Lib.hid H;unfold setV;obtain hq | hq | hq | hq : x / 64 = 0 ∨ x / 64 = 1 ∨ x / 64 = 2 ∨ x / 64 = 3 := by omega
 ·
  rw [hq] at H;go_enter Tryz.func81, Tryz.ntmps81
  go_wp2
  go_ret
  exact ⟨by rw [← H.out]; rfl, by go_grown⟩
 ·
  rw [hq] at H;go_enter Tryz.func81, Tryz.ntmps81
  go_wp2
  go_ret
  exact ⟨by rw [← H.out]; rfl, by go_grown⟩
 ·
  rw [hq] at H;go_enter Tryz.func81, Tryz.ntmps81
  go_wp2
  go_ret
  exact ⟨by rw [← H.out]; rfl, by go_grown⟩
 ·
  rw [hq] at H;go_enter Tryz.func81, Tryz.ntmps81
  go_wp2
  go_ret
  exact ⟨by rw [← H.out]; rfl, by go_grown⟩
theorem swith_any (m x : Nat) (hx : x < 256) (w : World) :
  Calls Tryz.prog 74 #[setV m, .int .u8 (x : Int)] w fun e w' => e = .returned (setV (m ||| 2 ^ x)) ∧ Below w.heap.size w w' := by
 have hr : x % 64 < 64 := Nat.mod_lt _ (by decide);have H := Lib.hid (word_or m (x / 64) (x % 64) hr);have P := Lib.hid (wordN_put m x);unfold setV;obtain hq | hq | hq | hq : x / 64 = 0 ∨ x / 64 = 1 ∨ x / 64 = 2 ∨ x / 64 = 3 := by omega
 ·
  rw [hq] at H;have e0 : word (m ||| 2 ^ x) 0 = bits BinOp.or IntKind.u64 (word m 0) (IntKind.u64.wrap (2 ^ (x % 64))) := by rw [H.out]; unfold word; rw [P.out, if_pos hq]
  have e1 : word (m ||| 2 ^ x) 1 = word m 1 := word_put m x 1 (by omega) (P.out 1);have e2 : word (m ||| 2 ^ x) 2 = word m 2 := word_put m x 2 (by omega) (P.out 2);have e3 : word (m ||| 2 ^ x) 3 = word m 3 := word_put m x 3 (by omega) (P.out 3);rw [e0, e1, e2, e3];clear e0 e1 e2 e3 H P;go_enter Tryz.func74, Tryz.ntmps74
  go_wp2
  refine bodyPost_ret (by simp [results, Tryz.f74, go_sem]; try rfl) rfl ?_;exact ⟨rfl, by go_grown⟩
 ·
  rw [hq] at H;have e1 : word (m ||| 2 ^ x) 1 = bits BinOp.or IntKind.u64 (word m 1) (IntKind.u64.wrap (2 ^ (x % 64))) := by rw [H.out]; unfold word; rw [P.out, if_pos hq]
  have e0 : word (m ||| 2 ^ x) 0 = word m 0 := word_put m x 0 (by omega) (P.out 0);have e2 : word (m ||| 2 ^ x) 2 = word m 2 := word_put m x 2 (by omega) (P.out 2);have e3 : word (m ||| 2 ^ x) 3 = word m 3 := word_put m x 3 (by omega) (P.out 3);rw [e0, e1, e2, e3];clear e0 e1 e2 e3 H P;go_enter Tryz.func74, Tryz.ntmps74
  go_wp2
  refine bodyPost_ret (by simp [results, Tryz.f74, go_sem]; try rfl) rfl ?_;exact ⟨rfl, by go_grown⟩
 ·
  rw [hq] at H;have e2 : word (m ||| 2 ^ x) 2 = bits BinOp.or IntKind.u64 (word m 2) (IntKind.u64.wrap (2 ^ (x % 64))) := by rw [H.out]; unfold word; rw [P.out, if_pos hq]
  have e0 : word (m ||| 2 ^ x) 0 = word m 0 := word_put m x 0 (by omega) (P.out 0);have e1 : word (m ||| 2 ^ x) 1 = word m 1 := word_put m x 1 (by omega) (P.out 1);have e3 : word (m ||| 2 ^ x) 3 = word m 3 := word_put m x 3 (by omega) (P.out 3);rw [e0, e1, e2, e3];clear e0 e1 e2 e3 H P;go_enter Tryz.func74, Tryz.ntmps74
  go_wp2
  refine bodyPost_ret (by simp [results, Tryz.f74, go_sem]; try rfl) rfl ?_;exact ⟨rfl, by go_grown⟩
 ·
  rw [hq] at H;have e3 : word (m ||| 2 ^ x) 3 = bits BinOp.or IntKind.u64 (word m 3) (IntKind.u64.wrap (2 ^ (x % 64))) := by rw [H.out]; unfold word; rw [P.out, if_pos hq]
  have e0 : word (m ||| 2 ^ x) 0 = word m 0 := word_put m x 0 (by omega) (P.out 0);have e1 : word (m ||| 2 ^ x) 1 = word m 1 := word_put m x 1 (by omega) (P.out 1);have e2 : word (m ||| 2 ^ x) 2 = word m 2 := word_put m x 2 (by omega) (P.out 2);rw [e0, e1, e2, e3];clear e0 e1 e2 e3 H P;go_enter Tryz.func74, Tryz.ntmps74
  go_wp2
  refine bodyPost_ret (by simp [results, Tryz.f74, go_sem]; try rfl) rfl ?_;exact ⟨rfl, by go_grown⟩
theorem bhas_any (m x : Nat) (hx : x < 256) (w : World) :
  Calls Tryz.prog 113 #[setV m, .int .u8 (x : Int)] w fun e w' => e = .returned (.bool (m.testBit x)) ∧ Below w.heap.size w w' := by
 have hr : x % 64 < 64 := Nat.mod_lt _ (by decide);have H := word_bit m (x / 64) (x % 64) hr;rw [Nat.div_add_mod] at H;have H := Lib.hid H;unfold setV;obtain hq | hq | hq | hq : x / 64 = 0 ∨ x / 64 = 1 ∨ x / 64 = 2 ∨ x / 64 = 3 := by omega
 ·
  rw [hq] at H;go_enter Tryz.func113, Tryz.ntmps113
  go_wp2
  go_ret
  exact ⟨by rw [← H.out]; rfl, by go_grown⟩
 ·
  rw [hq] at H;go_enter Tryz.func113, Tryz.ntmps113
  go_wp2
  go_ret
  exact ⟨by rw [← H.out]; rfl, by go_grown⟩
 ·
  rw [hq] at H;go_enter Tryz.func113, Tryz.ntmps113
  go_wp2
  go_ret
  exact ⟨by rw [← H.out]; rfl, by go_grown⟩
 ·
  rw [hq] at H;go_enter Tryz.func113, Tryz.ntmps113
  go_wp2
  go_ret
  exact ⟨by rw [← H.out]; rfl, by go_grown⟩
theorem bwith_any (m x : Nat) (hx : x < 256) (w : World) :
  Calls Tryz.prog 129 #[setV m, .int .u8 (x : Int)] w fun e w' => e = .returned (setV (m ||| 2 ^ x)) ∧ Below w.heap.size w w' := by
 have hr : x % 64 < 64 := Nat.mod_lt _ (by decide);have H := Lib.hid (word_or m (x / 64) (x % 64) hr);have P := Lib.hid (wordN_put m x);unfold setV;obtain hq | hq | hq | hq : x / 64 = 0 ∨ x / 64 = 1 ∨ x / 64 = 2 ∨ x / 64 = 3 := by omega
 ·
  rw [hq] at H;have e0 : word (m ||| 2 ^ x) 0 = bits BinOp.or IntKind.u64 (word m 0) (IntKind.u64.wrap (2 ^ (x % 64))) := by rw [H.out]; unfold word; rw [P.out, if_pos hq]
  have e1 : word (m ||| 2 ^ x) 1 = word m 1 := word_put m x 1 (by omega) (P.out 1);have e2 : word (m ||| 2 ^ x) 2 = word m 2 := word_put m x 2 (by omega) (P.out 2);have e3 : word (m ||| 2 ^ x) 3 = word m 3 := word_put m x 3 (by omega) (P.out 3);rw [e0, e1, e2, e3];clear e0 e1 e2 e3 H P;go_enter Tryz.func129, Tryz.ntmps129
  go_wp2
  refine bodyPost_ret (by simp [results, Tryz.f129, go_sem]; try rfl) rfl ?_;exact ⟨rfl, by go_grown⟩
 ·
  rw [hq] at H;have e1 : word (m ||| 2 ^ x) 1 = bits BinOp.or IntKind.u64 (word m 1) (IntKind.u64.wrap (2 ^ (x % 64))) := by rw [H.out]; unfold word; rw [P.out, if_pos hq]
  have e0 : word (m ||| 2 ^ x) 0 = word m 0 := word_put m x 0 (by omega) (P.out 0);have e2 : word (m ||| 2 ^ x) 2 = word m 2 := word_put m x 2 (by omega) (P.out 2);have e3 : word (m ||| 2 ^ x) 3 = word m 3 := word_put m x 3 (by omega) (P.out 3);rw [e0, e1, e2, e3];clear e0 e1 e2 e3 H P;go_enter Tryz.func129, Tryz.ntmps129
  go_wp2
  refine bodyPost_ret (by simp [results, Tryz.f129, go_sem]; try rfl) rfl ?_;exact ⟨rfl, by go_grown⟩
 ·
  rw [hq] at H;have e2 : word (m ||| 2 ^ x) 2 = bits BinOp.or IntKind.u64 (word m 2) (IntKind.u64.wrap (2 ^ (x % 64))) := by rw [H.out]; unfold word; rw [P.out, if_pos hq]
  have e0 : word (m ||| 2 ^ x) 0 = word m 0 := word_put m x 0 (by omega) (P.out 0);have e1 : word (m ||| 2 ^ x) 1 = word m 1 := word_put m x 1 (by omega) (P.out 1);have e3 : word (m ||| 2 ^ x) 3 = word m 3 := word_put m x 3 (by omega) (P.out 3);rw [e0, e1, e2, e3];clear e0 e1 e2 e3 H P;go_enter Tryz.func129, Tryz.ntmps129
  go_wp2
  refine bodyPost_ret (by simp [results, Tryz.f129, go_sem]; try rfl) rfl ?_;exact ⟨rfl, by go_grown⟩
 ·
  rw [hq] at H;have e3 : word (m ||| 2 ^ x) 3 = bits BinOp.or IntKind.u64 (word m 3) (IntKind.u64.wrap (2 ^ (x % 64))) := by rw [H.out]; unfold word; rw [P.out, if_pos hq]
  have e0 : word (m ||| 2 ^ x) 0 = word m 0 := word_put m x 0 (by omega) (P.out 0);have e1 : word (m ||| 2 ^ x) 1 = word m 1 := word_put m x 1 (by omega) (P.out 1);have e2 : word (m ||| 2 ^ x) 2 = word m 2 := word_put m x 2 (by omega) (P.out 2);rw [e0, e1, e2, e3];clear e0 e1 e2 e3 H P;go_enter Tryz.func129, Tryz.ntmps129
  go_wp2
  refine bodyPost_ret (by simp [results, Tryz.f129, go_sem]; try rfl) rfl ?_;exact ⟨rfl, by go_grown⟩
end Go.Proofs.YthdoniefjmphaaaGreatDoor
/- regex's reader: peek, skip. -/
namespace Go.Proofs.YthdoniefjmphaaaGreatDoor
open Go Go.Proofs Go.RowKit Go.Shelf
set_option maxRecDepth 100000
def peekN (l : List UInt8) (k : Nat) : Nat := (l[k]?.map (·.toNat)).getD 0
theorem peek_any (b : Nat) (s : ByteArray) (l : List UInt8) (hud : s.data.toList = l) (hl : l.length ≤ 1000) (k : Nat) (hk : k ≤ l.length) (w : World)
  (c0 : w.cell? ⟨b, 0, none⟩ = some (.string s)) (c1 : w.cell? ⟨b, 1, none⟩ = some (.int .i64 (k : Int))) :
  Calls Tryz.prog 109 #[.pointer (some ⟨b, 0, none⟩)] w fun e w' => e = .returned (.int .u8 (peekN l k : Int)) ∧ Below w.heap.size w w' := by
 have hsz : s.size = l.length := by rw [Lib.size_eq, hud]
 by_cases h : k = l.length
 ·
  have P : Hid (peekN l k = 0) := by unfold Hid peekN; rw [h, List.getElem?_eq_none (Nat.le_refl _)]; rfl
  have q : ((k : Int) == (s.size : Int)) = true := by rw [beq_iff_eq]; omega
  clear h hud;go_enter Tryz.func109, Tryz.ntmps109
  go_wp2
  go_region
  all_goals
   go_wp2
   go_ret
   exact ⟨by rw [P.out]; rfl, by go_grown⟩
 ·
  have hi : k < s.size := by omega
  have hcl := Lib.data_getElem? s k hi;rw [hud] at hcl;have P : Hid (peekN l k = (s[k]'hi).toNat) := by unfold Hid peekN; rw [hcl]; rfl
  have q : ((k : Int) == (s.size : Int)) = false := by rw [beq_eq_false_iff_ne]; omega
  have h0 : (0 : Int) ≤ (k : Int) := by omega
  have h1 : (k : Int) < (s.size : Int) := by omega
  have h2 : k < l.length := by omega
  clear hud hcl;go_enter Tryz.func109, Tryz.ntmps109
  go_wp2
  go_region
  all_goals
   go_wp2
   go_region
  all_goals
   go_wp2
   go_ret
   exact ⟨by rw [P.out]; rfl, by go_grown⟩
end Go.Proofs.YthdoniefjmphaaaGreatDoor
/- regex's sets: or, not. -/
namespace Go.Proofs.YthdoniefjmphaaaGreatDoor
open Go Go.Proofs Go.RowKit Go.Shelf
set_option maxRecDepth 100000
theorem cell_set {w : World} {p : Addr} {v : Value} (h : (w.cell? p).isSome = true) : (w.setCell p v).cell? p = some v := by
 obtain ⟨u, hu⟩ := Option.isSome_iff_exists.1 h;exact World.cell?_setCell_same _ _ _ hu
attribute [local go_sem] cell_set
attribute [local go_sem] cell_set
theorem wordN_or (a b i : Nat) : wordN (a ||| b) i = wordN a i ||| wordN b i := by
 apply Nat.eq_of_testBit_eq;intro j;by_cases hj : j < 64
 ·
  rw [wordN_bit _ _ _ hj, Nat.testBit_or, Nat.testBit_or, wordN_bit _ _ _ hj, wordN_bit _ _ _ hj]
 ·
  have big : ∀ a : Nat, a < 2 ^ 64 → a.testBit j = false := fun a ha => Nat.testBit_lt_two_pow (Nat.lt_of_lt_of_le ha (Nat.pow_le_pow_right (by decide) (by omega)))
  rw [big _ (wordN_lt _ _), big _ (Nat.or_lt_two_pow (wordN_lt a i) (wordN_lt b i))]
theorem bits_or (a b i : Nat) : bits BinOp.or IntKind.u64 (word a i) (word b i) = word (a ||| b) i := by
 unfold word;rw [bits_or_u64_nat _ _ (wordN_lt _ _) (wordN_lt _ _), wordN_or]
def mixW (a b k i : Nat) : Value := .int .u64 (if i < k then word b i else word a i)
set_option maxHeartbeats 1000000 in
theorem sor_any (a b : Nat) (w : World) :
  Calls Tryz.prog 96 #[setV a, setV b] w fun e w' => e = .returned (setV (a ||| b)) ∧ Below w.heap.size w w' := by
 have BO := Lib.hid (bits_or a b);unfold setV;go_enter Tryz.func96, Tryz.ntmps96
 go_wp2
 obtain ⟨W0, hW0⟩ : ∃ W0, (((w.alloc (.cells #[.int .u64 (word a 0), .int .u64 (word a 1), .int .u64 (word a 2), .int .u64 (word a 3)] 104)).alloc (.cells #[.int .u64 (word b 0), .int .u64 (word b 1), .int .u64 (word b 2), .int .u64 (word b 3)] 104)).alloc (.cells #[.int .u64 0, .int .u64 0, .int .u64 0, .int .u64 0] 104)) = W0 := ⟨_, rfl⟩;have hB : Below w.heap.size w W0 := by rw [← hW0]; go_grown
 have DA : At W0 w.heap.size [mixW a (a ||| b) 0 0, mixW a (a ||| b) 0 1, mixW a (a ||| b) 0 2, mixW a (a ||| b) 0 3] := by
  rw [← hW0]; exact ((At.new _ _ _).alloc _).alloc _
 have DB : At W0 (w.heap.size + 1) [.int .u64 (word b 0), .int .u64 (word b 1), .int .u64 (word b 2), .int .u64 (word b 3)] := by
  rw [← hW0]; have h := (At.new (w.alloc (.cells #[.int .u64 (word a 0), .int .u64 (word a 1), .int .u64 (word a 2), .int .u64 (word a 3)] 104)) #[.int .u64 (word b 0), .int .u64 (word b 1), .int .u64 (word b 2), .int .u64 (word b 3)] 104).alloc (.cells #[.int .u64 0, .int .u64 0, .int .u64 0, .int .u64 0] 104);simpa using h
 have DC : At W0 (w.heap.size + 1 + 1) [.int .u64 0, .int .u64 0, .int .u64 0, .int .u64 0] := by
  rw [← hW0]; have h := At.new ((w.alloc (.cells #[.int .u64 (word a 0), .int .u64 (word a 1), .int .u64 (word a 2), .int .u64 (word a 3)] 104)).alloc (.cells #[.int .u64 (word b 0), .int .u64 (word b 1), .int .u64 (word b 2), .int .u64 (word b 3)] 104)) #[.int .u64 0, .int .u64 0, .int .u64 0, .int .u64 0] 104;simpa using h
 rw [hW0];clear hW0;go_loopw [5, 6] (fun _ i wr => ∃ k : Nat, k ≤ 4 ∧ i = .int .i64 (k : Int) ∧ At wr w.heap.size [mixW a (a ||| b) k 0, mixW a (a ||| b) k 1, mixW a (a ||| b) k 2, mixW a (a ||| b) k 3] ∧ At wr (w.heap.size + 1) [.int .u64 (word b 0), .int .u64 (word b 1), .int .u64 (word b 2), .int .u64 (word b 3)] ∧ At wr (w.heap.size + 1 + 1) [.int .u64 0, .int .u64 0, .int .u64 0, .int .u64 0] ∧ Below w.heap.size w wr) (fun _ i _ => 4 - (RowKit.intOf i).toNat)
 case atStart => exact ⟨0, by omega, rfl, DA, DB, DC, hB⟩
 case round =>
  obtain ⟨k, hk, rfl, EA, EB, EC, hB⟩ := hrel;have hc : k = 0 ∨ k = 1 ∨ k = 2 ∨ k = 3 ∨ k = 4 := by omega
  clear DA DB DC;rcases hc with rfl | rfl | rfl | rfl | rfl
  ·
   have xa := EA.cell 0 _ rfl;have ya := EA.free 0 _ rfl;have xb := EB.cell 0 _ rfl;simp only [mixW, Nat.lt_irrefl, if_false] at xa;have FA : At (wr.drew.setCell ⟨w.heap.size, 0, none⟩ (.int .u64 (word (a ||| b) 0))) w.heap.size [mixW a (a ||| b) 1 0, mixW a (a ||| b) 1 1, mixW a (a ||| b) 1 2, mixW a (a ||| b) 1 3] := EA.drew.set 0 _;have FB := EB.drew.far (b' := w.heap.size) (j := 0) (by omega) (.int .u64 (word (a ||| b) 0));have FC := EC.drew.far (b' := w.heap.size) (j := 0) (by omega) (.int .u64 (word (a ||| b) 0));have FD := hB.drew.setCell (p := ⟨w.heap.size, 0, none⟩) (Nat.le_refl _) (.int .u64 (word (a ||| b) 0));have BK := BO.out 0;have sz : w.heap.size < wr.heap.size := EA.lt;have FA := Lib.hid FA;have FB := Lib.hid FB;have FC := Lib.hid FC;have FD := Lib.hid FD;clear EA EB EC hB;go_wp2
   go_region
   all_goals
    go_wp2
    go_roundw
    case rel => exact ⟨1, by omega, by go_num, FA.out, FB.out, FC.out, FD.out⟩
    case measure => simp [RowKit.intOf]
  ·
   have xa := EA.cell 1 _ rfl;have ya := EA.free 1 _ rfl;have xb := EB.cell 1 _ rfl;simp only [mixW, Nat.lt_irrefl, if_false] at xa;have FA : At (wr.drew.setCell ⟨w.heap.size, 1, none⟩ (.int .u64 (word (a ||| b) 1))) w.heap.size [mixW a (a ||| b) 2 0, mixW a (a ||| b) 2 1, mixW a (a ||| b) 2 2, mixW a (a ||| b) 2 3] := EA.drew.set 1 _;have FB := EB.drew.far (b' := w.heap.size) (j := 1) (by omega) (.int .u64 (word (a ||| b) 1));have FC := EC.drew.far (b' := w.heap.size) (j := 1) (by omega) (.int .u64 (word (a ||| b) 1));have FD := hB.drew.setCell (p := ⟨w.heap.size, 1, none⟩) (Nat.le_refl _) (.int .u64 (word (a ||| b) 1));have BK := BO.out 1;have sz : w.heap.size < wr.heap.size := EA.lt;have FA := Lib.hid FA;have FB := Lib.hid FB;have FC := Lib.hid FC;have FD := Lib.hid FD;clear EA EB EC hB;go_wp2
   go_region
   all_goals
    go_wp2
    go_roundw
    case rel => exact ⟨2, by omega, by go_num, FA.out, FB.out, FC.out, FD.out⟩
    case measure => simp [RowKit.intOf]
  ·
   have xa := EA.cell 2 _ rfl;have ya := EA.free 2 _ rfl;have xb := EB.cell 2 _ rfl;simp only [mixW, Nat.lt_irrefl, if_false] at xa;have FA : At (wr.drew.setCell ⟨w.heap.size, 2, none⟩ (.int .u64 (word (a ||| b) 2))) w.heap.size [mixW a (a ||| b) 3 0, mixW a (a ||| b) 3 1, mixW a (a ||| b) 3 2, mixW a (a ||| b) 3 3] := EA.drew.set 2 _;have FB := EB.drew.far (b' := w.heap.size) (j := 2) (by omega) (.int .u64 (word (a ||| b) 2));have FC := EC.drew.far (b' := w.heap.size) (j := 2) (by omega) (.int .u64 (word (a ||| b) 2));have FD := hB.drew.setCell (p := ⟨w.heap.size, 2, none⟩) (Nat.le_refl _) (.int .u64 (word (a ||| b) 2));have BK := BO.out 2;have sz : w.heap.size < wr.heap.size := EA.lt;have FA := Lib.hid FA;have FB := Lib.hid FB;have FC := Lib.hid FC;have FD := Lib.hid FD;clear EA EB EC hB;go_wp2
   go_region
   all_goals
    go_wp2
    go_roundw
    case rel => exact ⟨3, by omega, by go_num, FA.out, FB.out, FC.out, FD.out⟩
    case measure => simp [RowKit.intOf]
  ·
   have xa := EA.cell 3 _ rfl;have ya := EA.free 3 _ rfl;have xb := EB.cell 3 _ rfl;simp only [mixW, Nat.lt_irrefl, if_false] at xa;have FA : At (wr.drew.setCell ⟨w.heap.size, 3, none⟩ (.int .u64 (word (a ||| b) 3))) w.heap.size [mixW a (a ||| b) 4 0, mixW a (a ||| b) 4 1, mixW a (a ||| b) 4 2, mixW a (a ||| b) 4 3] := EA.drew.set 3 _;have FB := EB.drew.far (b' := w.heap.size) (j := 3) (by omega) (.int .u64 (word (a ||| b) 3));have FC := EC.drew.far (b' := w.heap.size) (j := 3) (by omega) (.int .u64 (word (a ||| b) 3));have FD := hB.drew.setCell (p := ⟨w.heap.size, 3, none⟩) (Nat.le_refl _) (.int .u64 (word (a ||| b) 3));have BK := BO.out 3;have sz : w.heap.size < wr.heap.size := EA.lt;have FA := Lib.hid FA;have FB := Lib.hid FB;have FC := Lib.hid FC;have FD := Lib.hid FD;clear EA EB EC hB;go_wp2
   go_region
   all_goals
    go_wp2
    go_roundw
    case rel => exact ⟨4, by omega, by go_num, FA.out, FB.out, FC.out, FD.out⟩
    case measure => simp [RowKit.intOf]
  ·
   have x0 := EA.cell 0 _ rfl;have x1 := EA.cell 1 _ rfl;have x2 := EA.cell 2 _ rfl;have x3 := EA.cell 3 _ rfl;have y0 := EC.cell 0 _ rfl;have y1 := EC.cell 1 _ rfl;have y2 := EC.cell 2 _ rfl;have y3 := EC.cell 3 _ rfl;have z0 := EC.free 0 _ rfl;have z1 := EC.free 1 _ rfl;have z2 := EC.free 2 _ rfl;have z3 := EC.free 3 _ rfl;have nc := EC.lt;simp only [mixW] at x0 x1 x2 x3;simp only [show (0 : Nat) < 4 from by decide, show (1 : Nat) < 4 from by decide, show (2 : Nat) < 4 from by decide, show (3 : Nat) < 4 from by decide, if_true] at x0 x1 x2 x3;clear EA EB EC;go_wp2
   refine bodyPost_ret (by simp [results, Tryz.results96, go_sem, y0, y1, y2, y3, z0, z1, z2, z3, nc]; try rfl) rfl ?_;exact ⟨rfl, by go_grown⟩
set_option maxHeartbeats 1000000 in
theorem bor_any (a b : Nat) (w : World) :
  Calls Tryz.prog 132 #[setV a, setV b] w fun e w' => e = .returned (setV (a ||| b)) ∧ Below w.heap.size w w' := by
 have BO := Lib.hid (bits_or a b);unfold setV;go_enter Tryz.func132, Tryz.ntmps132
 go_wp2
 obtain ⟨W0, hW0⟩ : ∃ W0, (((w.alloc (.cells #[.int .u64 (word a 0), .int .u64 (word a 1), .int .u64 (word a 2), .int .u64 (word a 3)] 103)).alloc (.cells #[.int .u64 (word b 0), .int .u64 (word b 1), .int .u64 (word b 2), .int .u64 (word b 3)] 103)).alloc (.cells #[.int .u64 0, .int .u64 0, .int .u64 0, .int .u64 0] 103)) = W0 := ⟨_, rfl⟩;have hB : Below w.heap.size w W0 := by rw [← hW0]; go_grown
 have DA : At W0 w.heap.size [mixW a (a ||| b) 0 0, mixW a (a ||| b) 0 1, mixW a (a ||| b) 0 2, mixW a (a ||| b) 0 3] := by
  rw [← hW0]; exact ((At.new _ _ _).alloc _).alloc _
 have DB : At W0 (w.heap.size + 1) [.int .u64 (word b 0), .int .u64 (word b 1), .int .u64 (word b 2), .int .u64 (word b 3)] := by
  rw [← hW0]; have h := (At.new (w.alloc (.cells #[.int .u64 (word a 0), .int .u64 (word a 1), .int .u64 (word a 2), .int .u64 (word a 3)] 103)) #[.int .u64 (word b 0), .int .u64 (word b 1), .int .u64 (word b 2), .int .u64 (word b 3)] 103).alloc (.cells #[.int .u64 0, .int .u64 0, .int .u64 0, .int .u64 0] 103);simpa using h
 have DC : At W0 (w.heap.size + 1 + 1) [.int .u64 0, .int .u64 0, .int .u64 0, .int .u64 0] := by
  rw [← hW0]; have h := At.new ((w.alloc (.cells #[.int .u64 (word a 0), .int .u64 (word a 1), .int .u64 (word a 2), .int .u64 (word a 3)] 103)).alloc (.cells #[.int .u64 (word b 0), .int .u64 (word b 1), .int .u64 (word b 2), .int .u64 (word b 3)] 103)) #[.int .u64 0, .int .u64 0, .int .u64 0, .int .u64 0] 103;simpa using h
 rw [hW0];clear hW0;go_loopw [5, 6] (fun _ i wr => ∃ k : Nat, k ≤ 4 ∧ i = .int .i64 (k : Int) ∧ At wr w.heap.size [mixW a (a ||| b) k 0, mixW a (a ||| b) k 1, mixW a (a ||| b) k 2, mixW a (a ||| b) k 3] ∧ At wr (w.heap.size + 1) [.int .u64 (word b 0), .int .u64 (word b 1), .int .u64 (word b 2), .int .u64 (word b 3)] ∧ At wr (w.heap.size + 1 + 1) [.int .u64 0, .int .u64 0, .int .u64 0, .int .u64 0] ∧ Below w.heap.size w wr) (fun _ i _ => 4 - (RowKit.intOf i).toNat)
 case atStart => exact ⟨0, by omega, rfl, DA, DB, DC, hB⟩
 case round =>
  obtain ⟨k, hk, rfl, EA, EB, EC, hB⟩ := hrel;have hc : k = 0 ∨ k = 1 ∨ k = 2 ∨ k = 3 ∨ k = 4 := by omega
  clear DA DB DC;rcases hc with rfl | rfl | rfl | rfl | rfl
  ·
   have xa := EA.cell 0 _ rfl;have ya := EA.free 0 _ rfl;have xb := EB.cell 0 _ rfl;simp only [mixW, Nat.lt_irrefl, if_false] at xa;have FA : At (wr.drew.setCell ⟨w.heap.size, 0, none⟩ (.int .u64 (word (a ||| b) 0))) w.heap.size [mixW a (a ||| b) 1 0, mixW a (a ||| b) 1 1, mixW a (a ||| b) 1 2, mixW a (a ||| b) 1 3] := EA.drew.set 0 _;have FB := EB.drew.far (b' := w.heap.size) (j := 0) (by omega) (.int .u64 (word (a ||| b) 0));have FC := EC.drew.far (b' := w.heap.size) (j := 0) (by omega) (.int .u64 (word (a ||| b) 0));have FD := hB.drew.setCell (p := ⟨w.heap.size, 0, none⟩) (Nat.le_refl _) (.int .u64 (word (a ||| b) 0));have BK := BO.out 0;have sz : w.heap.size < wr.heap.size := EA.lt;have FA := Lib.hid FA;have FB := Lib.hid FB;have FC := Lib.hid FC;have FD := Lib.hid FD;clear EA EB EC hB;go_wp2
   go_region
   all_goals
    go_wp2
    go_roundw
    case rel => exact ⟨1, by omega, by go_num, FA.out, FB.out, FC.out, FD.out⟩
    case measure => simp [RowKit.intOf]
  ·
   have xa := EA.cell 1 _ rfl;have ya := EA.free 1 _ rfl;have xb := EB.cell 1 _ rfl;simp only [mixW, Nat.lt_irrefl, if_false] at xa;have FA : At (wr.drew.setCell ⟨w.heap.size, 1, none⟩ (.int .u64 (word (a ||| b) 1))) w.heap.size [mixW a (a ||| b) 2 0, mixW a (a ||| b) 2 1, mixW a (a ||| b) 2 2, mixW a (a ||| b) 2 3] := EA.drew.set 1 _;have FB := EB.drew.far (b' := w.heap.size) (j := 1) (by omega) (.int .u64 (word (a ||| b) 1));have FC := EC.drew.far (b' := w.heap.size) (j := 1) (by omega) (.int .u64 (word (a ||| b) 1));have FD := hB.drew.setCell (p := ⟨w.heap.size, 1, none⟩) (Nat.le_refl _) (.int .u64 (word (a ||| b) 1));have BK := BO.out 1;have sz : w.heap.size < wr.heap.size := EA.lt;have FA := Lib.hid FA;have FB := Lib.hid FB;have FC := Lib.hid FC;have FD := Lib.hid FD;clear EA EB EC hB;go_wp2
   go_region
   all_goals
    go_wp2
    go_roundw
    case rel => exact ⟨2, by omega, by go_num, FA.out, FB.out, FC.out, FD.out⟩
    case measure => simp [RowKit.intOf]
  ·
   have xa := EA.cell 2 _ rfl;have ya := EA.free 2 _ rfl;have xb := EB.cell 2 _ rfl;simp only [mixW, Nat.lt_irrefl, if_false] at xa;have FA : At (wr.drew.setCell ⟨w.heap.size, 2, none⟩ (.int .u64 (word (a ||| b) 2))) w.heap.size [mixW a (a ||| b) 3 0, mixW a (a ||| b) 3 1, mixW a (a ||| b) 3 2, mixW a (a ||| b) 3 3] := EA.drew.set 2 _;have FB := EB.drew.far (b' := w.heap.size) (j := 2) (by omega) (.int .u64 (word (a ||| b) 2));have FC := EC.drew.far (b' := w.heap.size) (j := 2) (by omega) (.int .u64 (word (a ||| b) 2));have FD := hB.drew.setCell (p := ⟨w.heap.size, 2, none⟩) (Nat.le_refl _) (.int .u64 (word (a ||| b) 2));have BK := BO.out 2;have sz : w.heap.size < wr.heap.size := EA.lt;have FA := Lib.hid FA;have FB := Lib.hid FB;have FC := Lib.hid FC;have FD := Lib.hid FD;clear EA EB EC hB;go_wp2
   go_region
   all_goals
    go_wp2
    go_roundw
    case rel => exact ⟨3, by omega, by go_num, FA.out, FB.out, FC.out, FD.out⟩
    case measure => simp [RowKit.intOf]
  ·
   have xa := EA.cell 3 _ rfl;have ya := EA.free 3 _ rfl;have xb := EB.cell 3 _ rfl;simp only [mixW, Nat.lt_irrefl, if_false] at xa;have FA : At (wr.drew.setCell ⟨w.heap.size, 3, none⟩ (.int .u64 (word (a ||| b) 3))) w.heap.size [mixW a (a ||| b) 4 0, mixW a (a ||| b) 4 1, mixW a (a ||| b) 4 2, mixW a (a ||| b) 4 3] := EA.drew.set 3 _;have FB := EB.drew.far (b' := w.heap.size) (j := 3) (by omega) (.int .u64 (word (a ||| b) 3));have FC := EC.drew.far (b' := w.heap.size) (j := 3) (by omega) (.int .u64 (word (a ||| b) 3));have FD := hB.drew.setCell (p := ⟨w.heap.size, 3, none⟩) (Nat.le_refl _) (.int .u64 (word (a ||| b) 3));have BK := BO.out 3;have sz : w.heap.size < wr.heap.size := EA.lt;have FA := Lib.hid FA;have FB := Lib.hid FB;have FC := Lib.hid FC;have FD := Lib.hid FD;clear EA EB EC hB;go_wp2
   go_region
   all_goals
    go_wp2
    go_roundw
    case rel => exact ⟨4, by omega, by go_num, FA.out, FB.out, FC.out, FD.out⟩
    case measure => simp [RowKit.intOf]
  ·
   have x0 := EA.cell 0 _ rfl;have x1 := EA.cell 1 _ rfl;have x2 := EA.cell 2 _ rfl;have x3 := EA.cell 3 _ rfl;have y0 := EC.cell 0 _ rfl;have y1 := EC.cell 1 _ rfl;have y2 := EC.cell 2 _ rfl;have y3 := EC.cell 3 _ rfl;have z0 := EC.free 0 _ rfl;have z1 := EC.free 1 _ rfl;have z2 := EC.free 2 _ rfl;have z3 := EC.free 3 _ rfl;have nc := EC.lt;simp only [mixW] at x0 x1 x2 x3;simp only [show (0 : Nat) < 4 from by decide, show (1 : Nat) < 4 from by decide, show (2 : Nat) < 4 from by decide, show (3 : Nat) < 4 from by decide, if_true] at x0 x1 x2 x3;clear EA EB EC;go_wp2
   refine bodyPost_ret (by simp [results, Tryz.results132, go_sem, y0, y1, y2, y3, z0, z1, z2, z3, nc]; try rfl) rfl ?_;exact ⟨rfl, by go_grown⟩
abbrev pL (s t : Nat) (b : Bool) : List Value := [.int .u64 (word s 0), .int .u64 (word s 1), .int .u64 (word s 2), .int .u64 (word s 3), .int .u64 (word t 0), .int .u64 (word t 1), .int .u64 (word t 2), .int .u64 (word t 3), .bool b]
abbrev zL : List Value := [.int .u64 0, .int .u64 0, .int .u64 0, .int .u64 0, .int .u64 0, .int .u64 0, .int .u64 0, .int .u64 0, .bool false]
abbrev pC (s t : Nat) (b : Bool) : Obj := .cells #[.int .u64 (word s 0), .int .u64 (word s 1), .int .u64 (word s 2), .int .u64 (word s 3), .int .u64 (word t 0), .int .u64 (word t 1), .int .u64 (word t 2), .int .u64 (word t 3), .bool b] 112
abbrev zC : Obj := .cells #[.int .u64 0, .int .u64 0, .int .u64 0, .int .u64 0, .int .u64 0, .int .u64 0, .int .u64 0, .int .u64 0, .bool false] 112
theorem At.nwz (b : Nat) (w : World) (h : w.heap.size = b := by simp) : At (w.alloc zC) b zL := At.nwb b w zL 112 h
theorem At.nwp (b : Nat) (w : World) (s t : Nat) (y : Bool) (h : w.heap.size = b := by simp) : At (w.alloc (pC s t y)) b (pL s t y) := At.nwb b w (pL s t y) 112 h
theorem app9 {P : Value → Value → Value → Value → Value → Value → Value → Value → Value → Prop} (f : ∀ o0 o1 o2 o3 o4 o5 o6 o7 o8, P o0 o1 o2 o3 o4 o5 o6 o7 o8) (s t : Nat) (b : Bool) : P (.int .u64 (word s 0)) (.int .u64 (word s 1)) (.int .u64 (word s 2)) (.int .u64 (word s 3)) (.int .u64 (word t 0)) (.int .u64 (word t 1)) (.int .u64 (word t 2)) (.int .u64 (word t 3)) (.bool b) := f _ _ _ _ _ _ _ _ _
end Go.Proofs.YthdoniefjmphaaaGreatDoor
