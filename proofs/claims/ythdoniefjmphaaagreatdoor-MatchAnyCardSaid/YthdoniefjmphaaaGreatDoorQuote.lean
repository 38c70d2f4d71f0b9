/- belfryref9: Special. -/
import Derived.Test.YthdoniefjmphaaaGreatDoorOr
import Derived.Test.YthdoniefjmphaaaGreatDoorOps
import Derived.Test.YthdoniefjmphaaaGreatDoorShelf
import Derived.Laws.AppendOwn
import Derived.OwnWalk
namespace Go.Proofs.YthdoniefjmphaaaGreatDoor
open Go Go.Proofs Go.RowKit Go.Shelf
set_option maxRecDepth 100000
def specialL : List UInt8 := [40, 41, 91, 93, 124, 42, 43, 63, 92]
theorem special_any (c : UInt8) (w : World) :
  Calls Tryz.prog 85 #[.int .u8 (c.toNat : Int)] w fun e w' => e = .returned (.bool (specialL.contains c)) ∧ w = w' := by
 obtain ⟨R, hR⟩ : ∃ R, specialL.contains c = R := ⟨_, rfl⟩;rw [hR];have HR := Lib.hid hR;clear hR;have hc := c.toNat_lt;go_enter Tryz.func85, Tryz.ntmps85
 go_wp2
 go_loop [4] (fun i => ∃ k : Nat, k ≤ 9 ∧ i = .int .i64 (k : Int) ∧ (specialL.take k).contains c = false) (fun i => 9 - (intOf i).toNat)
 case atStart => exact ⟨0, Nat.zero_le _, rfl, rfl⟩
 case round =>
  obtain ⟨k, hk, rfl, hP⟩ := hrel;have hcs : k = 0 ∨ k = 1 ∨ k = 2 ∨ k = 3 ∨ k = 4 ∨ k = 5 ∨ k = 6 ∨ k = 7 ∨ k = 8 ∨ k = 9 := by omega
  rcases hcs with rfl | rfl | rfl | rfl | rfl | rfl | rfl | rfl | rfl | rfl
  ·
   have g : (({ data := #[40, 41, 91, 93, 124, 42, 43, 63, 92] } : ByteArray)[0]'(by decide)).toNat = 40 := by decide
   by_cases q : c = 40
   ·
    have EX : Hid (R = true) := by unfold Hid; rw [← HR.out, q]; decide
    have q1 : ((40 : Int) == (c.toNat : Int)) = true := by rw [q]; decide
    clear q hP;go_wp2
    go_ret
    exact ⟨by rw [EX.out]; rfl, rfl⟩
   ·
    have q0 : c.toNat ≠ 40 := fun e => q (UInt8.toNat.inj (by rw [e]; decide))
    have q1 : ((40 : Int) == (c.toNat : Int)) = false := by rw [beq_eq_false_iff_ne]; omega
    have NX : Hid ((specialL.take 1).contains c = false) := by
     unfold Hid;have e : specialL.take 1 = specialL.take 0 ++ [40] := rfl;cases h : (specialL.take 1).contains c
     ·
      rfl
     ·
      exfalso;rw [e, List.contains_iff_mem, List.mem_append] at h;rcases h with h | h
      ·
       rw [List.contains_iff_mem.2 h] at hP; cases hP
      ·
       exact q (List.mem_singleton.1 h)
    clear q hP q0;go_wp2
    go_round
    case rel => exact ⟨1, by omega, by go_num, NX.out⟩
    case measure => simp [intOf]
  ·
   have g : (({ data := #[40, 41, 91, 93, 124, 42, 43, 63, 92] } : ByteArray)[1]'(by decide)).toNat = 41 := by decide
   by_cases q : c = 41
   ·
    have EX : Hid (R = true) := by unfold Hid; rw [← HR.out, q]; decide
    have q1 : ((41 : Int) == (c.toNat : Int)) = true := by rw [q]; decide
    clear q hP;go_wp2
    go_ret
    exact ⟨by rw [EX.out]; rfl, rfl⟩
   ·
    have q0 : c.toNat ≠ 41 := fun e => q (UInt8.toNat.inj (by rw [e]; decide))
    have q1 : ((41 : Int) == (c.toNat : Int)) = false := by rw [beq_eq_false_iff_ne]; omega
    have NX : Hid ((specialL.take 2).contains c = false) := by
     unfold Hid;have e : specialL.take 2 = specialL.take 1 ++ [41] := rfl;cases h : (specialL.take 2).contains c
     ·
      rfl
     ·
      exfalso;rw [e, List.contains_iff_mem, List.mem_append] at h;rcases h with h | h
      ·
       rw [List.contains_iff_mem.2 h] at hP; cases hP
      ·
       exact q (List.mem_singleton.1 h)
    clear q hP q0;go_wp2
    go_round
    case rel => exact ⟨2, by omega, by go_num, NX.out⟩
    case measure => simp [intOf]
  ·
   have g : (({ data := #[40, 41, 91, 93, 124, 42, 43, 63, 92] } : ByteArray)[2]'(by decide)).toNat = 91 := by decide
   by_cases q : c = 91
   ·
    have EX : Hid (R = true) := by unfold Hid; rw [← HR.out, q]; decide
    have q1 : ((91 : Int) == (c.toNat : Int)) = true := by rw [q]; decide
    clear q hP;go_wp2
    go_ret
    exact ⟨by rw [EX.out]; rfl, rfl⟩
   ·
    have q0 : c.toNat ≠ 91 := fun e => q (UInt8.toNat.inj (by rw [e]; decide))
    have q1 : ((91 : Int) == (c.toNat : Int)) = false := by rw [beq_eq_false_iff_ne]; omega
    have NX : Hid ((specialL.take 3).contains c = false) := by
     unfold Hid;have e : specialL.take 3 = specialL.take 2 ++ [91] := rfl;cases h : (specialL.take 3).contains c
     ·
      rfl
     ·
      exfalso;rw [e, List.contains_iff_mem, List.mem_append] at h;rcases h with h | h
      ·
       rw [List.contains_iff_mem.2 h] at hP; cases hP
      ·
       exact q (List.mem_singleton.1 h)
    clear q hP q0;go_wp2
    go_round
    case rel => exact ⟨3, by omega, by go_num, NX.out⟩
    case measure => simp [intOf]
  ·
   have g : (({ data := #[40, 41, 91, 93, 124, 42, 43, 63, 92] } : ByteArray)[3]'(by decide)).toNat = 93 := by decide
   by_cases q : c = 93
   ·
    have EX : Hid (R = true) := by unfold Hid; rw [← HR.out, q]; decide
    have q1 : ((93 : Int) == (c.toNat : Int)) = true := by rw [q]; decide
    clear q hP;go_wp2
    go_ret
    exact ⟨by rw [EX.out]; rfl, rfl⟩
   ·
    have q0 : c.toNat ≠ 93 := fun e => q (UInt8.toNat.inj (by rw [e]; decide))
    have q1 : ((93 : Int) == (c.toNat : Int)) = false := by rw [beq_eq_false_iff_ne]; omega
    have NX : Hid ((specialL.take 4).contains c = false) := by
     unfold Hid;have e : specialL.take 4 = specialL.take 3 ++ [93] := rfl;cases h : (specialL.take 4).contains c
     ·
      rfl
     ·
      exfalso;rw [e, List.contains_iff_mem, List.mem_append] at h;rcases h with h | h
      ·
       rw [List.contains_iff_mem.2 h] at hP; cases hP
      ·
       exact q (List.mem_singleton.1 h)
    clear q hP q0;go_wp2
    go_round
    case rel => exact ⟨4, by omega, by go_num, NX.out⟩
    case measure => simp [intOf]
  ·
   have g : (({ data := #[40, 41, 91, 93, 124, 42, 43, 63, 92] } : ByteArray)[4]'(by decide)).toNat = 124 := by decide
   by_cases q : c = 124
   ·
    have EX : Hid (R = true) := by unfold Hid; rw [← HR.out, q]; decide
    have q1 : ((124 : Int) == (c.toNat : Int)) = true := by rw [q]; decide
    clear q hP;go_wp2
    go_ret
    exact ⟨by rw [EX.out]; rfl, rfl⟩
   ·
    have q0 : c.toNat ≠ 124 := fun e => q (UInt8.toNat.inj (by rw [e]; decide))
    have q1 : ((124 : Int) == (c.toNat : Int)) = false := by rw [beq_eq_false_iff_ne]; omega
    have NX : Hid ((specialL.take 5).contains c = false) := by
     unfold Hid;have e : specialL.take 5 = specialL.take 4 ++ [124] := rfl;cases h : (specialL.take 5).contains c
     ·
      rfl
     ·
      exfalso;rw [e, List.contains_iff_mem, List.mem_append] at h;rcases h with h | h
      ·
       rw [List.contains_iff_mem.2 h] at hP; cases hP
      ·
       exact q (List.mem_singleton.1 h)
    clear q hP q0;go_wp2
    go_round
    case rel => exact ⟨5, by omega, by go_num, NX.out⟩
    case measure => simp [intOf]
  ·
   have g : (({ data := #[40, 41, 91, 93, 124, 42, 43, 63, 92] } : ByteArray)[5]'(by decide)).toNat = 42 := by decide
   by_cases q : c = 42
   ·
    have EX : Hid (R = true) := by unfold Hid; rw [← HR.out, q]; decide
    have q1 : ((42 : Int) == (c.toNat : Int)) = true := by rw [q]; decide
    clear q hP;go_wp2
    go_ret
    exact ⟨by rw [EX.out]; rfl, rfl⟩
   ·
    have q0 : c.toNat ≠ 42 := fun e => q (UInt8.toNat.inj (by rw [e]; decide))
    have q1 : ((42 : Int) == (c.toNat : Int)) = false := by rw [beq_eq_false_iff_ne]; omega
    have NX : Hid ((specialL.take 6).contains c = false) := by
     unfold Hid;have e : specialL.take 6 = specialL.take 5 ++ [42] := rfl;cases h : (specialL.take 6).contains c
     ·
      rfl
     ·
      exfalso;rw [e, List.contains_iff_mem, List.mem_append] at h;rcases h with h | h
      ·
       rw [List.contains_iff_mem.2 h] at hP; cases hP
      ·
       exact q (List.mem_singleton.1 h)
    clear q hP q0;go_wp2
    go_round
    case rel => exact ⟨6, by omega, by go_num, NX.out⟩
    case measure => simp [intOf]
  ·
   have g : (({ data := #[40, 41, 91, 93, 124, 42, 43, 63, 92] } : ByteArray)[6]'(by decide)).toNat = 43 := by decide
   by_cases q : c = 43
   ·
    have EX : Hid (R = true) := by unfold Hid; rw [← HR.out, q]; decide
    have q1 : ((43 : Int) == (c.toNat : Int)) = true := by rw [q]; decide
    clear q hP;go_wp2
    go_ret
    exact ⟨by rw [EX.out]; rfl, rfl⟩
   ·
    have q0 : c.toNat ≠ 43 := fun e => q (UInt8.toNat.inj (by rw [e]; decide))
    have q1 : ((43 : Int) == (c.toNat : Int)) = false := by rw [beq_eq_false_iff_ne]; omega
    have NX : Hid ((specialL.take 7).contains c = false) := by
     unfold Hid;have e : specialL.take 7 = specialL.take 6 ++ [43] := rfl;cases h : (specialL.take 7).contains c
     ·
      rfl
     ·
      exfalso;rw [e, List.contains_iff_mem, List.mem_append] at h;rcases h with h | h
      ·
       rw [List.contains_iff_mem.2 h] at hP; cases hP
      ·
       exact q (List.mem_singleton.1 h)
    clear q hP q0;go_wp2
    go_round
    case rel => exact ⟨7, by omega, by go_num, NX.out⟩
    case measure => simp [intOf]
  ·
   have g : (({ data := #[40, 41, 91, 93, 124, 42, 43, 63, 92] } : ByteArray)[7]'(by decide)).toNat = 63 := by decide
   by_cases q : c = 63
   ·
    have EX : Hid (R = true) := by unfold Hid; rw [← HR.out, q]; decide
    have q1 : ((63 : Int) == (c.toNat : Int)) = true := by rw [q]; decide
    clear q hP;go_wp2
    go_ret
    exact ⟨by rw [EX.out]; rfl, rfl⟩
   ·
    have q0 : c.toNat ≠ 63 := fun e => q (UInt8.toNat.inj (by rw [e]; decide))
    have q1 : ((63 : Int) == (c.toNat : Int)) = false := by rw [beq_eq_false_iff_ne]; omega
    have NX : Hid ((specialL.take 8).contains c = false) := by
     unfold Hid;have e : specialL.take 8 = specialL.take 7 ++ [63] := rfl;cases h : (specialL.take 8).contains c
     ·
      rfl
     ·
      exfalso;rw [e, List.contains_iff_mem, List.mem_append] at h;rcases h with h | h
      ·
       rw [List.contains_iff_mem.2 h] at hP; cases hP
      ·
       exact q (List.mem_singleton.1 h)
    clear q hP q0;go_wp2
    go_round
    case rel => exact ⟨8, by omega, by go_num, NX.out⟩
    case measure => simp [intOf]
  ·
   have g : (({ data := #[40, 41, 91, 93, 124, 42, 43, 63, 92] } : ByteArray)[8]'(by decide)).toNat = 92 := by decide
   by_cases q : c = 92
   ·
    have EX : Hid (R = true) := by unfold Hid; rw [← HR.out, q]; decide
    have q1 : ((92 : Int) == (c.toNat : Int)) = true := by rw [q]; decide
    clear q hP;go_wp2
    go_ret
    exact ⟨by rw [EX.out]; rfl, rfl⟩
   ·
    have q0 : c.toNat ≠ 92 := fun e => q (UInt8.toNat.inj (by rw [e]; decide))
    have q1 : ((92 : Int) == (c.toNat : Int)) = false := by rw [beq_eq_false_iff_ne]; omega
    have NX : Hid ((specialL.take 9).contains c = false) := by
     unfold Hid;have e : specialL.take 9 = specialL.take 8 ++ [92] := rfl;cases h : (specialL.take 9).contains c
     ·
      rfl
     ·
      exfalso;rw [e, List.contains_iff_mem, List.mem_append] at h;rcases h with h | h
      ·
       rw [List.contains_iff_mem.2 h] at hP; cases hP
      ·
       exact q (List.mem_singleton.1 h)
    clear q hP q0;go_wp2
    go_round
    case rel => exact ⟨9, by omega, by go_num, NX.out⟩
    case measure => simp [intOf]
  ·
   have EX : Hid (R = false) := by unfold Hid; rw [← HR.out]; exact hP
   clear hP;go_wp2
   go_ret
   exact ⟨by rw [EX.out]; rfl, rfl⟩
open Go.Lib
theorem idx_in (c : UInt8) : ∀ l : List UInt8, (decide (0 ≤ Lib.indexByte l c)) = l.contains c ∧ -1 ≤ Lib.indexByte l c := by
 intro l;induction l with
 | nil => exact ⟨rfl, Int.le_refl _⟩
 | cons b t ih =>
  unfold Lib.indexByte;by_cases h : b = c
  ·
   rw [if_pos (by rw [beq_iff_eq]; exact h)];refine ⟨?_, by omega⟩;rw [List.contains_iff_mem.2 (by rw [h]; exact List.mem_cons_self)]; rfl
  ·
   rw [if_neg (by rw [beq_iff_eq]; exact h)];have e : (b :: t).contains c = t.contains c := by
    rw [List.contains_cons, show (c == b) = false from by rw [beq_eq_false_iff_ne]; exact fun e => h e.symm, Bool.false_or]
   rw [e, ← ih.1];by_cases h2 : Lib.indexByte t c = -1
   ·
    rw [if_pos (by rw [beq_iff_eq]; exact h2), h2]; exact ⟨rfl, by decide⟩
   ·
    rw [if_neg (by rw [beq_iff_eq]; exact h2)];have := ih.2;refine ⟨?_, by omega⟩;rw [decide_eq_decide]; omega
end Go.Proofs.YthdoniefjmphaaaGreatDoor
