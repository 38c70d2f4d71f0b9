/- Plain arithmetic of three limbs and of two: no Go in sight. -/
import Derived.WalkKit
import Derived.Laws.Bits64
import Derived.Laws.BitsAllLaws
import Derived.Lib.Mul64
namespace Go.Proofs.Ytkhlpbipkkbghaa
open Go Go.Proofs Go.RowKit

/-- the three limbs of v, going round -/
structure IsL (v a b c : Int) : Prop where
  h0 : a = v % 18446744073709551616
  h1 : b = v / 18446744073709551616 % 18446744073709551616
  h2 : c = v / 18446744073709551616 / 18446744073709551616 % 18446744073709551616

theorem isL_ex (v : Int) : ∃ a b c, IsL v a b c := ⟨_, _, _, rfl, rfl, rfl⟩
theorem IsL.r0 {v a b c : Int} (h : IsL v a b c) : 0 ≤ a ∧ a < 18446744073709551616 := by rw [h.h0]; omega
theorem IsL.r1 {v a b c : Int} (h : IsL v a b c) : 0 ≤ b ∧ b < 18446744073709551616 := by rw [h.h1]; omega
theorem IsL.r2 {v a b c : Int} (h : IsL v a b c) : 0 ≤ c ∧ c < 18446744073709551616 := by rw [h.h2]; omega

/-- a number of 128 bits in two fields -/
structure InI (hi lo : Int) : Prop where
  h1 : -9223372036854775808 ≤ hi
  h2 : hi ≤ 9223372036854775807
  l1 : 0 ≤ lo
  l2 : lo < 18446744073709551616

def I64 (n : Int) : Prop := -9223372036854775808 ≤ n ∧ n ≤ 9223372036854775807
def val (hi lo : Int) : Int := hi * 18446744073709551616 + lo
/-- does a number fit 128 bits with a sign -/
def Fits (v : Int) : Prop := -170141183460469231731687303715884105728 ≤ v ∧ v < 170141183460469231731687303715884105728

theorem InI.fits {hi lo : Int} (h : InI hi lo) : Fits (val hi lo) := by
  obtain ⟨a, b, c, d⟩ := h; unfold Fits val; omega
theorem fits_ex {v : Int} (h : Fits v) : ∃ hi lo, InI hi lo ∧ val hi lo = v := by
  unfold Fits at h
  refine ⟨v / 18446744073709551616, v % 18446744073709551616, ⟨by omega, by omega, by omega, by omega⟩, by unfold val; omega⟩
theorem val_inj {a b c d : Int} (h : InI a b) (k : InI c d) (e : val a b = val c d) : a = c ∧ b = d := by
  obtain ⟨_, _, _, _⟩ := h; obtain ⟨_, _, _, _⟩ := k; unfold val at e; omega

theorem isL_extend {hi lo : Int} (h : InI hi lo) : IsL (val hi lo) lo (IntKind.u64.wrap hi) (IntKind.u64.wrap (hi / 9223372036854775808)) := by
  obtain ⟨a, b, c, d⟩ := h
  unfold val
  rw [IntKind.wrap_u64, IntKind.wrap_u64]
  refine ⟨by omega, by omega, by omega⟩

theorem isL_add {x y x0 x1 x2 y0 y1 y2 : Int} (hx : IsL x x0 x1 x2) (hy : IsL y y0 y1 y2) :
    IsL (x + y) ((x0 + y0 + 0) % 18446744073709551616) ((x1 + y1 + (x0 + y0 + 0) / 18446744073709551616) % 18446744073709551616)
      ((x2 + y2 + (x1 + y1 + (x0 + y0 + 0) / 18446744073709551616) / 18446744073709551616) % 18446744073709551616) := by
  obtain ⟨a, b, c⟩ := hx; obtain ⟨d, e, f⟩ := hy
  generalize hX1 : x / 18446744073709551616 = X1 at *
  generalize hY1 : y / 18446744073709551616 = Y1 at *
  generalize hX2 : X1 / 18446744073709551616 = X2 at *
  generalize hY2 : Y1 / 18446744073709551616 = Y2 at *
  generalize hk0 : (x0 + y0 + 0) / 18446744073709551616 = k0 at *
  have e1 : (x + y) / 18446744073709551616 = X1 + Y1 + k0 := by omega
  generalize hk1 : (x1 + y1 + k0) / 18446744073709551616 = k1 at *
  have e2 : (X1 + Y1 + k0) / 18446744073709551616 = X2 + Y2 + k1 := by omega
  refine ⟨by omega, by rw [e1]; omega, by rw [e1, e2]; omega⟩

theorem isL_inj {v a b c a' b' c' : Int} (h : IsL v a b c) (k : IsL v a' b' c') : a = a' ∧ b = b' ∧ c = c' :=
  ⟨h.h0.trans k.h0.symm, h.h1.trans k.h1.symm, h.h2.trans k.h2.symm⟩

theorem narrow_yes {v a b c hi lo : Int} (h : IsL v a b c) (hin : InI hi lo) (hv : val hi lo = v) :
    a = lo ∧ wrap64 b = hi ∧ (IntKind.u64.wrap (wrap64 b) == b && IntKind.u64.wrap (wrap64 b / 9223372036854775808) == c) = true := by
  obtain ⟨p, q, r, s⟩ := hin
  obtain ⟨x, y, z⟩ := h
  unfold val at hv
  subst hv
  have hb : wrap64 b = hi := by unfold wrap64; omega
  rw [hb, IntKind.wrap_u64, IntKind.wrap_u64]
  refine ⟨by omega, rfl, ?_⟩
  rw [Bool.and_eq_true, beq_iff_eq, beq_iff_eq]
  omega

theorem narrow_no {v a b c : Int} (h : IsL v a b c) (h1 : -3138550867693340381917894711603833208051177722232017256448 ≤ v) (h2 : v < 3138550867693340381917894711603833208051177722232017256448) (hf : ¬ Fits v) :
    (IntKind.u64.wrap (wrap64 b) == b && IntKind.u64.wrap (wrap64 b / 9223372036854775808) == c) = false := by
  obtain ⟨x, y, z⟩ := h
  unfold Fits at hf
  rw [IntKind.wrap_u64, IntKind.wrap_u64, Bool.and_eq_false_iff, beq_eq_false_iff_ne, beq_eq_false_iff_ne]
  generalize hX1 : v / 18446744073709551616 = X1 at *
  generalize hX2 : X1 / 18446744073709551616 = X2 at *
  have e1 : wrap64 b / 9223372036854775808 = if b < 9223372036854775808 then 0 else -1 := by unfold wrap64; split <;> omega
  rw [e1]
  right
  split <;> omega
/-- which is greater -/
def cmpI (x y : Int) : Int := if x < y then -1 else if y < x then 1 else 0
theorem cmpI_cases (x y : Int) : (x < y ∧ cmpI x y = -1) ∨ (x = y ∧ cmpI x y = 0) ∨ (y < x ∧ cmpI x y = 1) := by
  unfold cmpI; split
  · exact .inl ⟨by omega, rfl⟩
  · split
    · exact .inr (.inr ⟨by omega, rfl⟩)
    · exact .inr (.inl ⟨by omega, rfl⟩)
def orI (a b : Int) : Int := if a = 0 then b else a
/-- compare, as its limbs have it -/
theorem cmp_limbs {x y x0 x1 x2 y0 y1 y2 : Int} (hx : IsL x x0 x1 x2) (hy : IsL y y0 y1 y2)
    (h1 : -3138550867693340381917894711603833208051177722232017256448 ≤ x) (h2 : x < 3138550867693340381917894711603833208051177722232017256448)
    (h3 : -3138550867693340381917894711603833208051177722232017256448 ≤ y) (h4 : y < 3138550867693340381917894711603833208051177722232017256448) :
    orI (cmpI (wrap64 x2) (wrap64 y2)) (orI (cmpI x2 y2) (orI (cmpI x1 y1) (orI (cmpI x0 y0) 0))) = cmpI x y := by
  obtain ⟨a, b, c⟩ := hx; obtain ⟨d, e, f⟩ := hy
  have e2 : wrap64 x2 = x / 18446744073709551616 / 18446744073709551616 := by unfold wrap64; omega
  have e2' : wrap64 y2 = y / 18446744073709551616 / 18446744073709551616 := by unfold wrap64; omega
  rw [e2, e2']
  rcases cmpI_cases (x / 18446744073709551616 / 18446744073709551616) (y / 18446744073709551616 / 18446744073709551616) with ⟨p, q⟩ | ⟨p, q⟩ | ⟨p, q⟩
  · rw [q]; unfold orI cmpI; simp; omega
  · have e3 : x2 = y2 := by rw [c, f, p]
    rw [q, e3]
    rcases cmpI_cases x1 y1 with ⟨p1, q1⟩ | ⟨p1, q1⟩ | ⟨p1, q1⟩
    · rw [q1]; unfold orI cmpI; simp; omega
    · rw [q1]
      rcases cmpI_cases x0 y0 with ⟨p0, q0⟩ | ⟨p0, q0⟩ | ⟨p0, q0⟩
      · rw [q0]; unfold orI cmpI; simp; omega
      · rw [q0]; unfold orI cmpI; simp; omega
      · rw [q0]; unfold orI cmpI; simp; omega
    · rw [q1]; unfold orI cmpI; simp; omega
  · rw [q]; unfold orI cmpI; simp; omega

theorem xor_u64 (b : Int) (h : 0 ≤ b ∧ b < 18446744073709551616) : bits BinOp.xor IntKind.u64 IntKind.u64.max b = 18446744073709551615 - b := by
  obtain ⟨b, rfl⟩ := Int.eq_ofNat_of_zero_le h.1
  have hb : b < 18446744073709551616 := by omega
  have e : IntKind.u64.max = ((18446744073709551615 : Nat) : Int) := by simp [IntKind.max, IntKind.signed, IntKind.bits]
  rw [e, u64_xor_nat _ _ (by omega) hb]
  have k : (18446744073709551615 : Nat) ^^^ b = 18446744073709551615 - b := by
    have h1 := Nat.xor_comm (2 ^ 64 - 1) b
    have h2 : (BitVec.allOnes 64 ^^^ BitVec.ofNat 64 b).toNat = (~~~ (BitVec.ofNat 64 b)).toNat := by rw [BitVec.allOnes_xor]
    rw [BitVec.toNat_xor, BitVec.toNat_not, BitVec.toNat_allOnes, BitVec.toNat_ofNat, Nat.mod_eq_of_lt (by omega)] at h2
    simpa using h2
  rw [k]; omega
theorem ofInt_64 (a : Int) : ((BitVec.ofInt 64 a).toNat : Int) = a % 18446744073709551616 := by
  rw [BitVec.toNat_ofInt]
  simp
  omega
theorem xor_i64 (a : Int) (h : -9223372036854775808 ≤ a ∧ a ≤ 9223372036854775807) : bits BinOp.xor IntKind.i64 (-1) a = -1 - a := by
  show IntKind.i64.wrap ((BitVec.ofInt 64 (-1) ^^^ BitVec.ofInt 64 a).toNat : Int) = _
  rw [show BitVec.ofInt 64 (-1) = BitVec.allOnes 64 from by decide, BitVec.allOnes_xor, BitVec.toNat_not]
  have e := ofInt_64 a
  have hl := (BitVec.ofInt 64 a).isLt
  rw [IntKind.wrap_i64]
  omega
theorem and_i64_all (a : Int) (h : -9223372036854775808 ≤ a ∧ a ≤ 9223372036854775807) : bits BinOp.and IntKind.i64 (-1) a = a := by
  show IntKind.i64.wrap ((BitVec.ofInt 64 (-1) &&& BitVec.ofInt 64 a).toNat : Int) = _
  rw [show BitVec.ofInt 64 (-1) = BitVec.allOnes 64 from by decide, BitVec.allOnes_and]
  have e := ofInt_64 a
  rw [IntKind.wrap_i64]
  omega
theorem and_i64_none (a : Int) : bits BinOp.and IntKind.i64 0 a = 0 := by
  show IntKind.i64.wrap ((BitVec.ofInt 64 0 &&& BitVec.ofInt 64 a).toNat : Int) = _
  rw [show BitVec.ofInt 64 0 = 0#64 from by decide, BitVec.zero_and]
  rfl
/-- a's sign, spread over all bits, and b: b or nothing -/
def sgn (a b : Int) : Int := if a < 0 then b else 0
theorem and_sgn (a b : Int) (ha : I64 a) (hb : I64 b) : bits BinOp.and IntKind.i64 (a / 9223372036854775808) b = sgn a b := by
  unfold I64 at ha hb
  unfold sgn
  split
  · rw [show a / 9223372036854775808 = -1 by omega]; exact and_i64_all b hb
  · rw [show a / 9223372036854775808 = 0 by omega]; exact and_i64_none b
end Go.Proofs.Ytkhlpbipkkbghaa
