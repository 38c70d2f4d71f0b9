/- braces.take: one item at the front of a text. -/
import Derived.Test.YthdoniefjmphaaaGreatDoorBrL
namespace Go.Proofs.YthdoniefjmphaaaGreatDoor
open Go Go.Proofs Go.RowKit Go.Shelf
set_option maxRecDepth 100000
theorem tw_len (p : UInt8 → Bool) (l : List UInt8) : (l.takeWhile p).length ≤ l.length := (List.takeWhile_sublist (p := p) (l := l)).length_le
theorem dw_len (p : UInt8 → Bool) (l : List UInt8) : (l.dropWhile p).length ≤ l.length := (List.dropWhile_sublist (p := p) (l := l)).length_le
theorem trimI_len (s p : List UInt8) : (Lib.trimPrefix s p).length ≤ s.length := by
 unfold Lib.trimPrefix; split
 ·
  rw [List.length_drop]; omega
 ·
  exact Nat.le_refl _
theorem pre_len {s p : List UInt8} (h : Lib.hasPrefix s p = true) : p.length ≤ s.length := by
 unfold Lib.hasPrefix at h;exact (List.isPrefixOf_iff_prefix.1 h).length_le
theorem clone_any (s : List UInt8) (hs : s.length ≤ 100000) (w : World) : Calls Tryz.prog 55 #[.string ⟨s.toArray⟩] w fun e w' => e = .returned (.string ⟨s.toArray⟩) ∧ Below w.heap.size w w' := by
 have hz : (⟨s.toArray⟩ : ByteArray).size ≤ 281474976710656 := by rw [Lib.size_eq]; show s.toArray.toList.length ≤ _; simp; omega
 have HC := Lib.hid (Tryz.stringslite_Clone ⟨s.toArray⟩ w hz);clear hz;go_enter Tryz.func55, Tryz.ntmps55
 go_wp2_with fail
 refine HC.out.mono ?_;rintro e w1 ⟨rfl, hb⟩;go_wp2
 go_ret
 exact ⟨rfl, hb⟩
set_option maxHeartbeats 2000000 in
theorem btake_a (a s s1 n s2 op : List UInt8) (b1 : Bool) (ok : Bool) (ol or_ : List UInt8) (hn : n.length ≤ 100000) (hop : op.length ≤ s2.length) (hs2 : s2.length ≤ 100000) (sv : Value) (w : World)
  (H1 : Hid (∀ W : World, Calls Tryz.prog 58 #[.string ⟨s.toArray⟩, .string ⟨a.toArray⟩] W fun e w' => e = .returned (.tuple #[.string ⟨s1.toArray⟩, .bool b1]) ∧ Below W.heap.size W w'))
  (H2 : Hid (∀ W : World, Below w.heap.size w W → Calls Tryz.prog 77 #[.string ⟨s1.toArray⟩, sv] W fun e w' => e = .returned (.tuple #[.string ⟨n.toArray⟩, .string ⟨s2.toArray⟩]) ∧ Below W.heap.size W w'))
  (H3 : Hid (∀ W : World, Below w.heap.size w W → Calls Tryz.prog 78 #[.string ⟨s2.toArray⟩, sv] W fun e w' => e = .returned (.string ⟨op.toArray⟩) ∧ Below W.heap.size W w'))
  (H5 : Hid (∀ W : World, Calls Tryz.prog 79 #[.string ⟨(s2.drop op.length).toArray⟩] W fun e w' => e = .returned (.tuple #[.string ⟨ol.toArray⟩, .string ⟨or_.toArray⟩, .bool ok]) ∧ Below W.heap.size W w')) (hb : b1 = false) :
  Calls Tryz.prog 59 #[.string ⟨a.toArray⟩, .string ⟨s.toArray⟩, sv] w fun e w' => e = .returned (.tuple #[.agg #[.string ⟨#[]⟩, .string ⟨#[]⟩, .string ⟨#[]⟩], .string ⟨#[]⟩, .bool false]) ∧ Below w.heap.size w w' := by
 have EX := Lib.hid (ext_back s2 op.length);have p0 : (0 : Int) ≤ (op.length : Int) := by omega
 have p1 : (op.length : Int) ≤ (s2.length : Int) := by omega
 have eop : (⟨op.toArray⟩ : ByteArray).toList = op := by rw [ByteArray.toList_eq]
 subst hb;go_enter Tryz.func59, Tryz.ntmps59
 go_wp2_with fail
 refine (H1.out _).mono ?_;rintro e w1 ⟨rfl, hb1⟩;have DL : At w1 (w.heap.size) [.string ⟨#[]⟩, .string ⟨#[]⟩, .string ⟨#[]⟩] := by have h := (At.new (w) #[.string ⟨#[]⟩, .string ⟨#[]⟩, .string ⟨#[]⟩] 70).below hb1; simpa using h
 have B : Below w.heap.size w w1 := below_then (below_new (Below.refl _ _) (.cells #[.string ⟨#[]⟩, .string ⟨#[]⟩, .string ⟨#[]⟩] 70)) hb1;clear hb1;have aL0 := DL.cell 0 _ rfl;have zL0 := DL.free 0 _ rfl;have aL1 := DL.cell 1 _ rfl;have zL1 := DL.free 1 _ rfl;have aL2 := DL.cell 2 _ rfl;have zL2 := DL.free 2 _ rfl;have nL := DL.lt;go_wp2_with fail
 refine (H2.out _ B).mono ?_;rintro e w2 ⟨rfl, hb2⟩;clear aL0 zL0 aL1 zL1 aL2 zL2 nL;have DL := DL.below hb2;have B : Below w.heap.size w w2 := below_then (B) hb2;clear hb2;have aL0 := DL.cell 0 _ rfl;have zL0 := DL.free 0 _ rfl;have aL1 := DL.cell 1 _ rfl;have zL1 := DL.free 1 _ rfl;have aL2 := DL.cell 2 _ rfl;have zL2 := DL.free 2 _ rfl;have nL := DL.lt;go_wp2_with fail
 refine (H3.out _ B).mono ?_;rintro e w3 ⟨rfl, hb3⟩;clear aL0 zL0 aL1 zL1 aL2 zL2 nL;have DL := DL.below hb3;have B : Below w.heap.size w w3 := below_then (B) hb3;clear hb3;have aL0 := DL.cell 0 _ rfl;have zL0 := DL.free 0 _ rfl;have aL1 := DL.cell 1 _ rfl;have zL1 := DL.free 1 _ rfl;have aL2 := DL.cell 2 _ rfl;have zL2 := DL.free 2 _ rfl;have nL := DL.lt;go_wp2_with fail
 rw [EX.out];refine (H5.out _).mono ?_;rintro e w4 ⟨rfl, hb4⟩;clear aL0 zL0 aL1 zL1 aL2 zL2 nL;have DL := DL.below hb4;have B : Below w.heap.size w w4 := below_then (B) hb4;clear hb4;have aL0 := DL.cell 0 _ rfl;have zL0 := DL.free 0 _ rfl;have aL1 := DL.cell 1 _ rfl;have zL1 := DL.free 1 _ rfl;have aL2 := DL.cell 2 _ rfl;have zL2 := DL.free 2 _ rfl;have nL := DL.lt;go_wp2
 refine bodyPost_ret (by simp [results, Tryz.results59, go_sem, aL0, aL1, aL2]; try rfl) rfl ?_;exact ⟨rfl, by go_grown⟩
set_option maxHeartbeats 2000000 in
theorem btake_b (a s s1 n s2 op : List UInt8) (b1 : Bool) (ok : Bool) (ol or_ : List UInt8) (hn : n.length ≤ 100000) (hop : op.length ≤ s2.length) (hs2 : s2.length ≤ 100000) (sv : Value) (w : World)
  (H1 : Hid (∀ W : World, Calls Tryz.prog 58 #[.string ⟨s.toArray⟩, .string ⟨a.toArray⟩] W fun e w' => e = .returned (.tuple #[.string ⟨s1.toArray⟩, .bool b1]) ∧ Below W.heap.size W w'))
  (H2 : Hid (∀ W : World, Below w.heap.size w W → Calls Tryz.prog 77 #[.string ⟨s1.toArray⟩, sv] W fun e w' => e = .returned (.tuple #[.string ⟨n.toArray⟩, .string ⟨s2.toArray⟩]) ∧ Below W.heap.size W w'))
  (H3 : Hid (∀ W : World, Below w.heap.size w W → Calls Tryz.prog 78 #[.string ⟨s2.toArray⟩, sv] W fun e w' => e = .returned (.string ⟨op.toArray⟩) ∧ Below W.heap.size W w'))
  (H5 : Hid (∀ W : World, Calls Tryz.prog 79 #[.string ⟨(s2.drop op.length).toArray⟩] W fun e w' => e = .returned (.tuple #[.string ⟨ol.toArray⟩, .string ⟨or_.toArray⟩, .bool ok]) ∧ Below W.heap.size W w')) (hb : b1 = true) (h0 : op = []) :
  Calls Tryz.prog 59 #[.string ⟨a.toArray⟩, .string ⟨s.toArray⟩, sv] w fun e w' => e = .returned (.tuple #[.agg #[.string ⟨#[]⟩, .string ⟨#[]⟩, .string ⟨#[]⟩], .string ⟨#[]⟩, .bool false]) ∧ Below w.heap.size w w' := by
 have EX := Lib.hid (ext_back s2 op.length);have p0 : (0 : Int) ≤ (op.length : Int) := by omega
 have p1 : (op.length : Int) ≤ (s2.length : Int) := by omega
 have eop : (⟨op.toArray⟩ : ByteArray).toList = op := by rw [ByteArray.toList_eq]
 subst hb;have q0 : (op == []) = true := by rw [h0]; rfl
 have HO := Lib.hid h0;clear h0;go_enter Tryz.func59, Tryz.ntmps59
 go_wp2_with fail
 refine (H1.out _).mono ?_;rintro e w1 ⟨rfl, hb1⟩;have DL : At w1 (w.heap.size) [.string ⟨#[]⟩, .string ⟨#[]⟩, .string ⟨#[]⟩] := by have h := (At.new (w) #[.string ⟨#[]⟩, .string ⟨#[]⟩, .string ⟨#[]⟩] 70).below hb1; simpa using h
 have B : Below w.heap.size w w1 := below_then (below_new (Below.refl _ _) (.cells #[.string ⟨#[]⟩, .string ⟨#[]⟩, .string ⟨#[]⟩] 70)) hb1;clear hb1;have aL0 := DL.cell 0 _ rfl;have zL0 := DL.free 0 _ rfl;have aL1 := DL.cell 1 _ rfl;have zL1 := DL.free 1 _ rfl;have aL2 := DL.cell 2 _ rfl;have zL2 := DL.free 2 _ rfl;have nL := DL.lt;go_wp2_with fail
 refine (H2.out _ B).mono ?_;rintro e w2 ⟨rfl, hb2⟩;clear aL0 zL0 aL1 zL1 aL2 zL2 nL;have DL := DL.below hb2;have B : Below w.heap.size w w2 := below_then (B) hb2;clear hb2;have aL0 := DL.cell 0 _ rfl;have zL0 := DL.free 0 _ rfl;have aL1 := DL.cell 1 _ rfl;have zL1 := DL.free 1 _ rfl;have aL2 := DL.cell 2 _ rfl;have zL2 := DL.free 2 _ rfl;have nL := DL.lt;go_wp2_with fail
 refine (H3.out _ B).mono ?_;rintro e w3 ⟨rfl, hb3⟩;clear aL0 zL0 aL1 zL1 aL2 zL2 nL;have DL := DL.below hb3;have B : Below w.heap.size w w3 := below_then (B) hb3;clear hb3;have aL0 := DL.cell 0 _ rfl;have zL0 := DL.free 0 _ rfl;have aL1 := DL.cell 1 _ rfl;have zL1 := DL.free 1 _ rfl;have aL2 := DL.cell 2 _ rfl;have zL2 := DL.free 2 _ rfl;have nL := DL.lt;go_wp2_with fail
 rw [EX.out];refine (H5.out _).mono ?_;rintro e w4 ⟨rfl, hb4⟩;clear aL0 zL0 aL1 zL1 aL2 zL2 nL;have DL := DL.below hb4;have B : Below w.heap.size w w4 := below_then (B) hb4;clear hb4;have aL0 := DL.cell 0 _ rfl;have zL0 := DL.free 0 _ rfl;have aL1 := DL.cell 1 _ rfl;have zL1 := DL.free 1 _ rfl;have aL2 := DL.cell 2 _ rfl;have zL2 := DL.free 2 _ rfl;have nL := DL.lt;go_wp2
 refine bodyPost_ret (by simp [results, Tryz.results59, go_sem, aL0, aL1, aL2]; try rfl) rfl ?_;exact ⟨rfl, by go_grown⟩
set_option maxHeartbeats 2000000 in
theorem btake_d (a s s1 n s2 op : List UInt8) (b1 : Bool) (ok : Bool) (ol or_ : List UInt8) (hn : n.length ≤ 100000) (hop : op.length ≤ s2.length) (hs2 : s2.length ≤ 100000) (sv : Value) (w : World)
  (H1 : Hid (∀ W : World, Calls Tryz.prog 58 #[.string ⟨s.toArray⟩, .string ⟨a.toArray⟩] W fun e w' => e = .returned (.tuple #[.string ⟨s1.toArray⟩, .bool b1]) ∧ Below W.heap.size W w'))
  (H2 : Hid (∀ W : World, Below w.heap.size w W → Calls Tryz.prog 77 #[.string ⟨s1.toArray⟩, sv] W fun e w' => e = .returned (.tuple #[.string ⟨n.toArray⟩, .string ⟨s2.toArray⟩]) ∧ Below W.heap.size W w'))
  (H3 : Hid (∀ W : World, Below w.heap.size w W → Calls Tryz.prog 78 #[.string ⟨s2.toArray⟩, sv] W fun e w' => e = .returned (.string ⟨op.toArray⟩) ∧ Below W.heap.size W w'))
  (H5 : Hid (∀ W : World, Calls Tryz.prog 79 #[.string ⟨(s2.drop op.length).toArray⟩] W fun e w' => e = .returned (.tuple #[.string ⟨ol.toArray⟩, .string ⟨or_.toArray⟩, .bool ok]) ∧ Below W.heap.size W w')) (hb : b1 = true) (h0 : op ≠ []) (hk : ok = false) :
  Calls Tryz.prog 59 #[.string ⟨a.toArray⟩, .string ⟨s.toArray⟩, sv] w fun e w' => e = .returned (.tuple #[.agg #[.string ⟨#[]⟩, .string ⟨#[]⟩, .string ⟨#[]⟩], .string ⟨#[]⟩, .bool false]) ∧ Below w.heap.size w w' := by
 have EX := Lib.hid (ext_back s2 op.length);have p0 : (0 : Int) ≤ (op.length : Int) := by omega
 have p1 : (op.length : Int) ≤ (s2.length : Int) := by omega
 have eop : (⟨op.toArray⟩ : ByteArray).toList = op := by rw [ByteArray.toList_eq]
 subst hb hk;have q0 : (op == []) = false := by rw [beq_eq_false_iff_ne]; exact h0
 have HO := Lib.hid h0;clear h0;go_enter Tryz.func59, Tryz.ntmps59
 go_wp2_with fail
 refine (H1.out _).mono ?_;rintro e w1 ⟨rfl, hb1⟩;have DL : At w1 (w.heap.size) [.string ⟨#[]⟩, .string ⟨#[]⟩, .string ⟨#[]⟩] := by have h := (At.new (w) #[.string ⟨#[]⟩, .string ⟨#[]⟩, .string ⟨#[]⟩] 70).below hb1; simpa using h
 have B : Below w.heap.size w w1 := below_then (below_new (Below.refl _ _) (.cells #[.string ⟨#[]⟩, .string ⟨#[]⟩, .string ⟨#[]⟩] 70)) hb1;clear hb1;have aL0 := DL.cell 0 _ rfl;have zL0 := DL.free 0 _ rfl;have aL1 := DL.cell 1 _ rfl;have zL1 := DL.free 1 _ rfl;have aL2 := DL.cell 2 _ rfl;have zL2 := DL.free 2 _ rfl;have nL := DL.lt;go_wp2_with fail
 refine (H2.out _ B).mono ?_;rintro e w2 ⟨rfl, hb2⟩;clear aL0 zL0 aL1 zL1 aL2 zL2 nL;have DL := DL.below hb2;have B : Below w.heap.size w w2 := below_then (B) hb2;clear hb2;have aL0 := DL.cell 0 _ rfl;have zL0 := DL.free 0 _ rfl;have aL1 := DL.cell 1 _ rfl;have zL1 := DL.free 1 _ rfl;have aL2 := DL.cell 2 _ rfl;have zL2 := DL.free 2 _ rfl;have nL := DL.lt;go_wp2_with fail
 refine (H3.out _ B).mono ?_;rintro e w3 ⟨rfl, hb3⟩;clear aL0 zL0 aL1 zL1 aL2 zL2 nL;have DL := DL.below hb3;have B : Below w.heap.size w w3 := below_then (B) hb3;clear hb3;have aL0 := DL.cell 0 _ rfl;have zL0 := DL.free 0 _ rfl;have aL1 := DL.cell 1 _ rfl;have zL1 := DL.free 1 _ rfl;have aL2 := DL.cell 2 _ rfl;have zL2 := DL.free 2 _ rfl;have nL := DL.lt;go_wp2_with fail
 rw [EX.out];refine (H5.out _).mono ?_;rintro e w4 ⟨rfl, hb4⟩;clear aL0 zL0 aL1 zL1 aL2 zL2 nL;have DL := DL.below hb4;have B : Below w.heap.size w w4 := below_then (B) hb4;clear hb4;have aL0 := DL.cell 0 _ rfl;have zL0 := DL.free 0 _ rfl;have aL1 := DL.cell 1 _ rfl;have zL1 := DL.free 1 _ rfl;have aL2 := DL.cell 2 _ rfl;have zL2 := DL.free 2 _ rfl;have nL := DL.lt;go_wp2
 refine bodyPost_ret (by simp [results, Tryz.results59, go_sem, aL0, aL1, aL2]; try rfl) rfl ?_;exact ⟨rfl, by go_grown⟩
set_option maxHeartbeats 2000000 in
theorem btake_e (a s s1 n s2 op : List UInt8) (b1 : Bool) (ok : Bool) (ol or_ : List UInt8) (hn : n.length ≤ 100000) (hop : op.length ≤ s2.length) (hs2 : s2.length ≤ 100000) (sv : Value) (w : World)
  (H1 : Hid (∀ W : World, Calls Tryz.prog 58 #[.string ⟨s.toArray⟩, .string ⟨a.toArray⟩] W fun e w' => e = .returned (.tuple #[.string ⟨s1.toArray⟩, .bool b1]) ∧ Below W.heap.size W w'))
  (H2 : Hid (∀ W : World, Below w.heap.size w W → Calls Tryz.prog 77 #[.string ⟨s1.toArray⟩, sv] W fun e w' => e = .returned (.tuple #[.string ⟨n.toArray⟩, .string ⟨s2.toArray⟩]) ∧ Below W.heap.size W w'))
  (H3 : Hid (∀ W : World, Below w.heap.size w W → Calls Tryz.prog 78 #[.string ⟨s2.toArray⟩, sv] W fun e w' => e = .returned (.string ⟨op.toArray⟩) ∧ Below W.heap.size W w'))
  (H5 : Hid (∀ W : World, Calls Tryz.prog 79 #[.string ⟨(s2.drop op.length).toArray⟩] W fun e w' => e = .returned (.tuple #[.string ⟨ol.toArray⟩, .string ⟨or_.toArray⟩, .bool ok]) ∧ Below W.heap.size W w')) (hb : b1 = true) (h0 : op ≠ []) (hk : ok = true) :
  Calls Tryz.prog 59 #[.string ⟨a.toArray⟩, .string ⟨s.toArray⟩, sv] w fun e w' => e = .returned (.tuple #[.agg #[.string ⟨n.toArray⟩, .string ⟨op.toArray⟩, .string ⟨ol.toArray⟩], .string ⟨or_.toArray⟩, .bool true]) ∧ Below w.heap.size w w' := by
 have EX := Lib.hid (ext_back s2 op.length);have p0 : (0 : Int) ≤ (op.length : Int) := by omega
 have p1 : (op.length : Int) ≤ (s2.length : Int) := by omega
 have eop : (⟨op.toArray⟩ : ByteArray).toList = op := by rw [ByteArray.toList_eq]
 subst hb hk;have q0 : (op == []) = false := by rw [beq_eq_false_iff_ne]; exact h0
 have HO := Lib.hid h0;clear h0;have HC := Lib.hid (fun W => clone_any n hn W);go_enter Tryz.func59, Tryz.ntmps59
 go_wp2_with fail
 refine (H1.out _).mono ?_;rintro e w1 ⟨rfl, hb1⟩;have DL : At w1 (w.heap.size) [.string ⟨#[]⟩, .string ⟨#[]⟩, .string ⟨#[]⟩] := by have h := (At.new (w) #[.string ⟨#[]⟩, .string ⟨#[]⟩, .string ⟨#[]⟩] 70).below hb1; simpa using h
 have B : Below w.heap.size w w1 := below_then (below_new (Below.refl _ _) (.cells #[.string ⟨#[]⟩, .string ⟨#[]⟩, .string ⟨#[]⟩] 70)) hb1;clear hb1;have aL0 := DL.cell 0 _ rfl;have zL0 := DL.free 0 _ rfl;have aL1 := DL.cell 1 _ rfl;have zL1 := DL.free 1 _ rfl;have aL2 := DL.cell 2 _ rfl;have zL2 := DL.free 2 _ rfl;have nL := DL.lt;go_wp2_with fail
 refine (H2.out _ B).mono ?_;rintro e w2 ⟨rfl, hb2⟩;clear aL0 zL0 aL1 zL1 aL2 zL2 nL;have DL := DL.below hb2;have B : Below w.heap.size w w2 := below_then (B) hb2;clear hb2;have aL0 := DL.cell 0 _ rfl;have zL0 := DL.free 0 _ rfl;have aL1 := DL.cell 1 _ rfl;have zL1 := DL.free 1 _ rfl;have aL2 := DL.cell 2 _ rfl;have zL2 := DL.free 2 _ rfl;have nL := DL.lt;go_wp2_with fail
 refine (H3.out _ B).mono ?_;rintro e w3 ⟨rfl, hb3⟩;clear aL0 zL0 aL1 zL1 aL2 zL2 nL;have DL := DL.below hb3;have B : Below w.heap.size w w3 := below_then (B) hb3;clear hb3;have aL0 := DL.cell 0 _ rfl;have zL0 := DL.free 0 _ rfl;have aL1 := DL.cell 1 _ rfl;have zL1 := DL.free 1 _ rfl;have aL2 := DL.cell 2 _ rfl;have zL2 := DL.free 2 _ rfl;have nL := DL.lt;go_wp2_with fail
 rw [EX.out];refine (H5.out _).mono ?_;rintro e w4 ⟨rfl, hb4⟩;clear aL0 zL0 aL1 zL1 aL2 zL2 nL;have DL := DL.below hb4;have B : Below w.heap.size w w4 := below_then (B) hb4;clear hb4;have aL0 := DL.cell 0 _ rfl;have zL0 := DL.free 0 _ rfl;have aL1 := DL.cell 1 _ rfl;have zL1 := DL.free 1 _ rfl;have aL2 := DL.cell 2 _ rfl;have zL2 := DL.free 2 _ rfl;have nL := DL.lt;go_wp2_with fail
 refine (HC.out _).mono ?_;rintro e w5 ⟨rfl, hb5⟩;clear aL0 zL0 aL1 zL1 aL2 zL2 nL;have DL := DL.below hb5;have B : Below w.heap.size w w5 := below_then (B) hb5;clear hb5;have aL0 := DL.cell 0 _ rfl;have zL0 := DL.free 0 _ rfl;have aL1 := DL.cell 1 _ rfl;have zL1 := DL.free 1 _ rfl;have aL2 := DL.cell 2 _ rfl;have zL2 := DL.free 2 _ rfl;have nL := DL.lt;go_wp2
 refine bodyPost_ret (by simp [results, Tryz.results59, go_sem, aL0, aL1, aL2]; try rfl) rfl ?_;exact ⟨rfl, by go_grown⟩
theorem takeI_q (ops : List (List UInt8)) (a s : List UInt8) : takeI ops a s = match tqR ((cutN ops (Lib.trimPrefix s a)).2.drop (longR ops (cutN ops (Lib.trimPrefix s a)).2).length) with
  | none => none
  | some (v, r) => if Lib.hasPrefix s a = true ∧ longR ops (cutN ops (Lib.trimPrefix s a)).2 ≠ [] then some (((cutN ops (Lib.trimPrefix s a)).1, longR ops (cutN ops (Lib.trimPrefix s a)).2, v), r) else none := by
 unfold takeI tqR;generalize (cutN ops (Lib.trimPrefix s a)).2.drop (longR ops (cutN ops (Lib.trimPrefix s a)).2).length = X;by_cases h : Lib.hasPrefix X [34] = true
 ·
  rw [if_pos h];cases tE [] (Lib.trimPrefix X [34]) with
  | none => rfl
  | some vr => obtain ⟨v, r⟩ := vr; simp only [h, and_true]
 ·
  rw [if_neg h];cases tE [] (Lib.trimPrefix X [34]) with
  | none => rfl
  | some vr => obtain ⟨v, r⟩ := vr; dsimp only; rw [if_neg (by rintro ⟨_, _, q⟩; exact h q)]
theorem btake_any (zs : List STx) (sv : Value) (a s : List UInt8) (hs : s.length ≤ 100000) (w : World) (hI : TxAt w.heap.size w sv (zs.map (·.1))) :
  Calls Tryz.prog 59 #[.string ⟨a.toArray⟩, .string ⟨s.toArray⟩, sv] w fun e w' => e = .returned (takeIV (takeI (zs.map (·.1)) a s)) ∧ Below w.heap.size w w' := by
 obtain ⟨A, L, C, hsv⟩ : ∃ A L C, sv = .slice A L C := by obtain ⟨_, b, off, cap, e, _⟩ := hI; exact ⟨_, _, _, e⟩
 subst hsv;have H1 := Lib.hid (fun W => (Tryz.strings_CutPrefix ⟨s.toArray⟩ ⟨a.toArray⟩ W).mono (R' := fun e w' => e = .returned (.tuple #[.string ⟨(Lib.trimPrefix s a).toArray⟩, .bool (Lib.hasPrefix s a)]) ∧ Below W.heap.size W w') (fun e w' ⟨x, y⟩ => ⟨x, by rw [y]; exact Below.refl _ _⟩));have l1 := trimI_len s a;rw [takeI_q];generalize Lib.trimPrefix s a = s1 at *;generalize Lib.hasPrefix s a = b1 at *;have H2 := Lib.hid (fun (W : World) (hb : Below w.heap.size w W) => cutName_any (zs.map (·.1)) A L C s1 (by omega) W ((hI.below hb).mono hb.size));have l2 : (cutN (zs.map (·.1)) s1).1.length ≤ s1.length := tw_len _ _;have l3 : (cutN (zs.map (·.1)) s1).2.length ≤ s1.length := dw_len _ _;generalize (cutN (zs.map (·.1)) s1).1 = n at *;generalize (cutN (zs.map (·.1)) s1).2 = s2 at *;have H3 := Lib.hid (fun (W : World) (hb : Below w.heap.size w W) => longest_any zs A L C s2 (by omega) W ((hI.below hb).mono hb.size));have l4 := pre_len (long_pre (zs.map (·.1)) s2);generalize longR (zs.map (·.1)) s2 = op at *;have l5 : (s2.drop op.length).length ≤ 100000 := by rw [List.length_drop]; omega
 have H5 := fun W => takeQ_any (s2.drop op.length) l5 W
 cases ho : tqR (s2.drop op.length) with
 | none =>
  rw [ho] at H5;have H5 := Lib.hid H5;dsimp only [takeIV];cases b1 with
  | false => exact btake_a a s s1 n s2 op false false [] [] (by omega) l4 (by omega) _ w H1 H2 H3 H5 rfl
  | true =>
   by_cases h0 : op = []
   ·
    exact btake_b a s s1 n s2 op true false [] [] (by omega) l4 (by omega) _ w H1 H2 H3 H5 rfl h0
   ·
    exact btake_d a s s1 n s2 op true false [] [] (by omega) l4 (by omega) _ w H1 H2 H3 H5 rfl h0 rfl
 | some vr =>
  obtain ⟨v, r⟩ := vr;rw [ho] at H5;have H5 := Lib.hid H5;dsimp only;cases b1 with
  | false =>
   rw [if_neg (by simp)];exact btake_a a s s1 n s2 op false true v r (by omega) l4 (by omega) _ w H1 H2 H3 H5 rfl
  | true =>
   by_cases h0 : op = []
   ·
    rw [if_neg (by simp [h0])];exact btake_b a s s1 n s2 op true true v r (by omega) l4 (by omega) _ w H1 H2 H3 H5 rfl h0
   ·
    rw [if_pos ⟨rfl, h0⟩];exact btake_e a s s1 n s2 op true true v r (by omega) l4 (by omega) _ w H1 H2 H3 H5 rfl h0 rfl
end Go.Proofs.YthdoniefjmphaaaGreatDoor
/- The texts of labels as they are read (mathematics), by the reading of items with the one word '='. -/
namespace Go.Proofs.YthdoniefjmphaaaGreatDoor
open Go Go.Proofs Go.RowKit Go.Shelf
set_option maxRecDepth 100000
theorem te_len (s : List UInt8) : ∀ S v r, tE S s = some (v, r) → r.length < s.length := by
 induction hn : s.length using Nat.strongRecOn generalizing s with
 | _ n ih =>
  intro S v r h
  match s, hn with
  | [], _ => rw [tE_nil] at h; cases h
  | c :: t, hn =>
   by_cases h1 : c.toNat = 34
   ·
    rw [tE_q _ _ _ h1] at h; cases h; simp at hn; omega
   ·
    by_cases h2 : c.toNat = 92
    ·
     match t, hn with
     | [], _ => rw [tE_b0 _ _ h2] at h; cases h
     | d :: u, hn =>
      by_cases h3 : d.toNat = 34 ∨ d.toNat = 92
      ·
       rw [tE_b1 _ _ _ _ h2 h3] at h;have := ih u.length (by simp at hn; omega) u rfl _ _ _ h;simp at hn; omega
      ·
       rw [tE_b2 _ _ _ _ h2 h3] at h; cases h
    ·
     rw [tE_c _ _ _ h1 h2] at h;have := ih t.length (by simp at hn; omega) t rfl _ _ _ h;simp at hn; omega
theorem hp_one (s : List UInt8) (c : UInt8) : Lib.hasPrefix s [c] = true ↔ ∃ t, s = c :: t := by
 unfold Lib.hasPrefix;rw [List.isPrefixOf_iff_prefix];constructor
 ·
  rintro ⟨t, h⟩; exact ⟨t, h.symm⟩
 ·
  rintro ⟨t, rfl⟩; exact ⟨t, rfl⟩
end Go.Proofs.YthdoniefjmphaaaGreatDoor
/- braces.written: the items of a text, one by one: the iterator's contract. -/
namespace Go.Proofs.YthdoniefjmphaaaGreatDoor
open Go Go.Proofs Go.RowKit Go.Shelf
set_option maxRecDepth 100000
attribute [local go_sem] Oper.semAt_some
theorem grown_belowI {W w2 : World} (h : Below W.heap.size W w2) : W.grownBy w2 none := ⟨h.os, h.tape, h.output, h.size, fun k hk _ => h.block k hk⟩
theorem abides_belowI {β : Type} {B : Nat} {J : β → World → Prop} (h : AbidesFrom B J) {s : β} {W w2 : World} (hj : J s W) (hb : Below W.heap.size W w2) : J s w2 :=
 h s W w2 none hj (grown_belowI hb) (fun r e => by cases e)
def ShortI (x : Itm) : Prop := x.1.length ≤ 1000 ∧ x.2.1.length ≤ 1000 ∧ x.2.2.length ≤ 1000
abbrev SItm := { x : Itm // ShortI x }
def nilItm : SItm := ⟨([], [], []), by unfold ShortI; simp⟩
def WrI (ops : List (List UInt8)) : List UInt8 → List UInt8 → List (SItm × Bool) → Prop
 | _, _, [] => False
 | a, r, z :: t => match takeI ops a r with
  | none => z = (nilItm, false) ∧ t = []
  | some (x, b) => z.1.1 = x ∧ z.2 = true ∧ (if b = [125] then t = [] else WrI ops [44] b t)
theorem wri_none {ops : List (List UInt8)} {a r : List UInt8} {z : SItm × Bool} {t : List (SItm × Bool)} (h : WrI ops a r (z :: t)) (e : takeI ops a r = none) : z = (nilItm, false) ∧ t = [] := by
 unfold WrI at h; rw [e] at h; exact h
theorem wri_some {ops : List (List UInt8)} {a r b : List UInt8} {x : Itm} {z : SItm × Bool} {t : List (SItm × Bool)} (h : WrI ops a r (z :: t)) (e : takeI ops a r = some (x, b)) : z.1.1 = x ∧ z.2 = true ∧ (if b = [125] then t = [] else WrI ops [44] b t) := by
 unfold WrI at h; rw [e] at h; exact h
def WrSI (ops : List (List UInt8)) (s : List UInt8) (zs : List (SItm × Bool)) : Prop :=
 if Lib.hasPrefix s [123, 125] = true then (if Lib.trimPrefix s [123, 125] = [] then zs = [] else zs = [(nilItm, false)]) else WrI ops [123] s zs
theorem takeI_lt (ops : List (List UInt8)) (a s : List UInt8) (x : Itm) (b : List UInt8) (h : takeI ops a s = some (x, b)) : b.length < s.length := by
 unfold takeI at h;have h1 := trimI_len s a;have h2 : (cutN ops (Lib.trimPrefix s a)).2.length ≤ (Lib.trimPrefix s a).length := dw_len _ _;have h3 := trimI_len ((cutN ops (Lib.trimPrefix s a)).2.drop (longR ops (cutN ops (Lib.trimPrefix s a)).2).length) [34];rw [List.length_drop] at h3;split at h
 ·
  cases h
 ·
  rename_i v r he
  have h4 := te_len _ _ _ _ he;split at h
  ·
   cases h; omega
  ·
   cases h
def KpB (n₀ Bo : Nat) (W W' : World) : Prop := Below n₀ W W' ∧ ∀ v, W.cell? ⟨Bo, 0, none⟩ = some v → W'.cell? ⟨Bo, 0, none⟩ = some v
theorem kpB_t {n₀ Bo : Nat} {A B C : World} (h : KpB n₀ Bo A B) (k : KpB n₀ Bo B C) : KpB n₀ Bo A C := ⟨h.1.trans k.1, fun v e => k.2 v (h.2 v e)⟩
theorem kpB_b {n₀ Bo : Nat} {w : World} (hn : n₀ ≤ w.heap.size) (W : World) (l : Nat) (o o' : Obj) (hl : w.heap.size ≤ l) (h : W.heap[l]? = some o) (h1 : o.isCells = false) (h2 : o.isWalk = false) : KpB n₀ Bo W (W.putObj l o') :=
 ⟨belowK_b hn W l o o' hl h h1 h2, fun v e => by
  have hne : Bo ≠ l := by
   intro q; subst q;unfold World.cell? at e;dsimp only at e;rw [h] at e;cases o <;> simp_all [Obj.isCells]
  exact (World.cell?_of_block (a := ⟨Bo, 0, none⟩) (World.putObj_heap_other hne)).trans e⟩
theorem kpB_below {n₀ Bo : Nat} {W W' : World} (hn : n₀ ≤ W.heap.size) (hB : Bo < W.heap.size) (h : Below W.heap.size W W') : KpB n₀ Bo W W' := ⟨h.mono hn, fun v e => (h.cell (p := ⟨Bo, 0, none⟩) hB).trans e⟩
def OpsAt (ops : List STx) (sv : Value) (Bo n₀ : Nat) (W : World) : Prop := W.cell? ⟨Bo, 0, none⟩ = some sv ∧ TxAt n₀ W sv (ops.map (·.1)) ∧ Bo < W.heap.size ∧ n₀ ≤ W.heap.size
theorem OpsAt.below {ops : List STx} {sv : Value} {Bo n₀ : Nat} {W W' : World} (h : OpsAt ops sv Bo n₀ W) (hb : Below W.heap.size W W') : OpsAt ops sv Bo n₀ W' :=
 ⟨(hb.cell (p := ⟨Bo, 0, none⟩) h.2.2.1).trans h.1, h.2.1.below (hb.mono h.2.2.2), Nat.lt_of_lt_of_le h.2.2.1 hb.size, Nat.le_trans h.2.2.2 hb.size⟩
theorem OpsAt.kp {ops : List STx} {sv : Value} {Bo n₀ : Nat} {W W' : World} (h : OpsAt ops sv Bo n₀ W) (k : KpB n₀ Bo W W') : OpsAt ops sv Bo n₀ W' :=
 ⟨k.2 _ h.1, h.2.1.below k.1, Nat.lt_of_lt_of_le h.2.2.1 k.1.size, Nat.le_trans h.2.2.2 k.1.size⟩
theorem OpsAt.tx {ops : List STx} {sv : Value} {Bo n₀ : Nat} {W : World} (h : OpsAt ops sv Bo n₀ W) : TxAt W.heap.size W sv (ops.map (·.1)) := h.2.1.mono h.2.2.2
def lenOf : Value → Nat
 | .string s => s.size
 | _ => 0
def wEncI (x : SItm × Bool) : Array Value := #[itmV x.1.1, .bool x.2]
theorem cut2I_any (s : List UInt8) (W : World) : Calls Tryz.prog 58 #[.string ⟨s.toArray⟩, .string ⟨#[123, 125]⟩] W fun e w' => e = .returned (.tuple #[.string ⟨(Lib.trimPrefix s [123, 125]).toArray⟩, .bool (Lib.hasPrefix s [123, 125])]) ∧ W = w' :=
 (Tryz.strings_CutPrefix ⟨s.toArray⟩ ⟨#[123, 125]⟩ W).mono (fun _ _ ⟨x, y⟩ => ⟨x, y.symm⟩)
set_option maxHeartbeats 4000000 in
theorem bwritten1_in (ops : List STx) (sv : Value) (l Bs Bo n₀ : Nat) (s : List UInt8) (hs : s.length ≤ 100000) (zs : List (SItm × Bool)) (hZ : WrSI (ops.map (·.1)) s zs) (J Jx : List (SItm × Bool) → World → Prop)
  (hJ : ∀ pre W w2, J pre W → Below W.heap.size W w2 → J pre w2)
  (hY : ∀ pre x W, J pre W → pre.length < zs.length → YieldAt Fence.wide 7 Tryz.prog l (wEncI x) W fun e W' =>
   (e = .returned (.bool true) ∧ J (pre ++ [x]) W' ∧ KpB n₀ Bo W W') ∨ (e = .returned (.bool false) ∧ Jx (pre ++ [x]) W'))
  (W : World) (hBs : W.cell? ⟨Bs, 0, none⟩ = some (.string ⟨s.toArray⟩)) (hO : OpsAt ops sv Bo n₀ W) (h0 : J [] W) :
  CallsIn Fence.wide 8 Tryz.prog 57 #[.func (.yield l) #[] #[], .pointer (some ⟨Bs, 0, none⟩), .pointer (some ⟨Bo, 0, none⟩)] W fun e W' => (∃ v, e = .returned v) ∧
   ((∃ ys, ys = zs ∧ J ys W') ∨ (∃ pre, pre <+: zs ∧ Jx pre W')) := by
 refine callsIn_of_wp Tryz.func57 rfl trivial ?_ rfl;simp only [Tryz.ntmps57, List.size_toArray, List.length_cons, List.length_nil, Nat.reduceAdd, Nat.reduceSub, Array.replicate_succ, Array.replicate_zero, List.push_toArray, List.append_toArray, List.nil_append, List.cons_append];have HC := Lib.hid (cut2I_any s W);have H0 := Lib.hid h0;have HO := Lib.hid hO;unfold WrSI at hZ;clear h0 hO;cases hp : Lib.hasPrefix s [123, 125]
 ·
  rw [hp] at HC;rw [if_neg (by rw [hp]; simp)] at hZ;have HZ := Lib.hid hZ;clear hZ hp
  gi_wp2
  refine ⟨trivial, (callsIn_wide.2 HC.out).mono ?_⟩;rintro e w2 ⟨rfl, rfl⟩;generalize Lib.trimPrefix s [123, 125] = u at *;clear HC
  gi_wp2
  gi_region
  gi_wp2
  gi_loopw [6, 7] (fun a6 r6 wr => ∃ (pre post : List (SItm × Bool)) (a r : List UInt8), a6 = .string ⟨a.toArray⟩ ∧ r6 = .string ⟨r.toArray⟩ ∧ r.length ≤ 100000 ∧ WrI (ops.map (·.1)) a r post ∧ zs = pre ++ post ∧ J pre wr ∧ OpsAt ops sv Bo n₀ wr) (fun _ r6 _ => lenOf r6)
  case atStart => exact ⟨[], zs, [123], s, rfl, rfl, hs, HZ.out, rfl, hJ _ _ _ H0.out (by go_grown), HO.out.below (by go_grown)⟩
  case round =>
   obtain ⟨pre, post, a, r, rfl, rfl, hr, hW, hz, hj, hO⟩ := hrel;rcases post with _ | ⟨z, t⟩
   ·
    exact hW.elim
   have hlp : pre.length < zs.length := by rw [hz]; simp
   have HT := Lib.hid (btake_any ops sv a r hr wr hO.tx);have cO := hO.1;have HO := Lib.hid hO;have HH := Lib.hid hY;have HJ := Lib.hid hJ;have Hj := Lib.hid hj;have Hz := Lib.hid hz;clear hY hJ hj hz H0 HZ hO;cases ht : takeI (ops.map (·.1)) a r with
   | none =>
    obtain ⟨rfl, rfl⟩ := wri_none hW ht;rw [ht] at HT;dsimp only [takeIV, itmV] at HT;clear hW ht
    gi_wp2
    refine ⟨trivial, (callsIn_wide.2 HT.out).mono ?_⟩;rintro e w2 ⟨rfl, hb⟩;have j2 := HJ.out _ _ (w2.alloc (.cells #[.string ⟨#[]⟩, .string ⟨#[]⟩, .string ⟨#[]⟩] 70)) Hj.out (hb.alloc hb.size _);obtain ⟨fn, tmps, assign, body, hy, hR⟩ := HH.out pre (nilItm, false) _ j2 hlp;dsimp only [wEncI, itmV, nilItm] at hy;clear HT hb
    gi_wp2
    refine hR.mono ?_;rintro e W3 (⟨rfl, hJ3, _⟩ | ⟨rfl, hJx3⟩)
    ·
     have HJ3 := Lib.hid hJ3;clear hJ3 j2 hR
     gi_wp2
     refine bodyPost_ret (results_none rfl _ _ _) rfl ?_;exact ⟨⟨_, rfl⟩, .inl ⟨_, by rw [Hz.out], HJ3.out⟩⟩
    ·
     have HJ3 := Lib.hid hJx3;clear hJx3 j2 hR
     gi_wp2
     refine bodyPost_ret (results_none rfl _ _ _) rfl ?_;exact ⟨⟨_, rfl⟩, .inr ⟨_, by rw [Hz.out]; exact List.prefix_refl _, HJ3.out⟩⟩
   | some xb =>
    obtain ⟨x, b⟩ := xb;obtain ⟨hx1, hx2, hx3⟩ := wri_some hW ht;have hlt := takeI_lt _ _ _ _ _ ht;rw [ht] at HT;dsimp only [takeIV, itmV] at HT;clear hW ht;obtain ⟨⟨y, hy0⟩, bo⟩ := z;dsimp only at hx1 hx2;subst hx1 hx2
    gi_wp2
    refine ⟨trivial, (callsIn_wide.2 HT.out).mono ?_⟩;rintro e w2 ⟨rfl, hb⟩;have j2 := HJ.out _ _ (w2.alloc (.cells #[.string ⟨y.1.toArray⟩, .string ⟨y.2.1.toArray⟩, .string ⟨y.2.2.toArray⟩] 70)) Hj.out (hb.alloc hb.size _);obtain ⟨fn, tmps, assign, body, hy, hR⟩ := HH.out pre (⟨y, hy0⟩, true) _ j2 hlp;dsimp only [wEncI, itmV] at hy;have HBT := Lib.hid hb;clear HT hb
    gi_wp2
    refine hR.mono ?_;rintro e W3 (⟨rfl, hJ3, hk3⟩ | ⟨rfl, hJx3⟩)
    ·
     have HJ3 := Lib.hid hJ3;have HK3 := Lib.hid hk3;clear hJ3 j2 hR hk3;have g1 : ByteArray.toList ⟨b.toArray⟩ = b := by rw [ByteArray.toList_eq]
     by_cases hb : b = [125]
     ·
      rw [if_pos hb] at hx3;subst hb hx3
      gi_wp2
      refine bodyPost_ret (results_none rfl _ _ _) rfl ?_;exact ⟨⟨_, rfl⟩, .inl ⟨_, by rw [Hz.out], HJ3.out⟩⟩
     ·
      rw [if_neg hb] at hx3;have hbb : (b == [125]) = false := by rw [beq_eq_false_iff_ne]; exact hb
      have HX := Lib.hid hx3;clear hx3 hb
      gi_wp2
      go_roundw
      case rel => exact ⟨pre ++ [(⟨y, hy0⟩, true)], t, [44], b, rfl, rfl, by omega, HX.out, by rw [Hz.out]; simp, HJ3.out, ((HO.out.below (below_then HBT.out (below_cells _))).kp HK3.out)⟩
      case measure => simp only [lenOf]; exact hlt
    ·
     have HJ3 := Lib.hid hJx3;clear hJx3 j2 hR
     gi_wp2
     refine bodyPost_ret (results_none rfl _ _ _) rfl ?_;exact ⟨⟨_, rfl⟩, .inr ⟨_, by rw [Hz.out]; exact ⟨t, by simp⟩, HJ3.out⟩⟩
 ·
  rw [hp] at HC;rw [if_pos hp] at hZ;by_cases hu : Lib.trimPrefix s [123, 125] = []
  ·
   rw [if_pos hu] at hZ;rw [hu] at HC;subst hZ;clear hp hu
   gi_wp2
   refine ⟨trivial, (callsIn_wide.2 HC.out).mono ?_⟩;rintro e w2 ⟨rfl, rfl⟩
   gi_wp2
   refine bodyPost_ret (results_none rfl _ _ _) rfl ?_;exact ⟨⟨_, rfl⟩, .inl ⟨_, rfl, H0.out⟩⟩
  ·
   rw [if_neg hu] at hZ;subst hZ;have hu2 : (Lib.trimPrefix s [123, 125]).isEmpty = false := by
    cases h : Lib.trimPrefix s [123, 125] with
    | nil => exact absurd h hu
    | cons _ _ => rfl
   generalize Lib.trimPrefix s [123, 125] = u at *;have g1 : ByteArray.toList ⟨u.toArray⟩ = u := by rw [ByteArray.toList_eq]
   obtain ⟨fn, tmps, assign, body, hy, hR⟩ := hY [] (nilItm, false) W H0.out (by simp);dsimp only [wEncI, itmV, nilItm] at hy;clear hp hu hY hJ
   gi_wp2
   refine ⟨trivial, (callsIn_wide.2 HC.out).mono ?_⟩;rintro e w2 ⟨rfl, rfl⟩
   gi_wp2
   refine hR.mono ?_;rintro e W3 (⟨rfl, hJ3, _⟩ | ⟨rfl, hJx3⟩)
   ·
    have HJ3 := Lib.hid hJ3;clear hJ3 hR
    gi_wp2
    refine bodyPost_ret (results_none rfl _ _ _) rfl ?_;exact ⟨⟨_, rfl⟩, .inl ⟨_, rfl, HJ3.out⟩⟩
   ·
    have HJ3 := Lib.hid hJx3;clear hJx3 hR
    gi_wp2
    refine bodyPost_ret (results_none rfl _ _ _) rfl ?_;exact ⟨⟨_, rfl⟩, .inr ⟨_, List.prefix_refl _, HJ3.out⟩⟩
theorem bwritten_in (s : List UInt8) (A : Option Addr) (L C : Nat) (w : World) :
  CallsIn Fence.wide 8 Tryz.prog 45 #[.string ⟨s.toArray⟩, .slice A L C] w fun e w' => e = .returned (.func (.func 57) #[] #[.pointer (some ⟨w.heap.size, 0, none⟩), .pointer (some ⟨w.heap.size + 1, 0, none⟩)]) ∧ w' = (w.alloc (.cells #[.string ⟨s.toArray⟩] 9)).alloc (.cells #[.slice A L C] 88) := by
 refine callsIn_of_wp Tryz.func45 rfl trivial ?_ rfl;simp only [Tryz.ntmps45, List.size_toArray, List.length_cons, List.length_nil, Nat.reduceAdd, Nat.reduceSub, Array.replicate_succ, Array.replicate_zero, List.push_toArray, List.append_toArray, List.nil_append, List.cons_append]
 gi_wp2
 go_ret
 exact ⟨rfl, rfl⟩
theorem bwritten_stops (ops : List STx) (sv : Value) (Bs Bo n₀ : Nat) (s : List UInt8) (hs : s.length ≤ 100000) (zs : List (SItm × Bool)) (hZ : WrSI (ops.map (·.1)) s zs) (w : World) (hBs : Bs < w.heap.size)
  (hc : w.cell? ⟨Bs, 0, none⟩ = some (.string ⟨s.toArray⟩)) (hO : OpsAt ops sv Bo n₀ w) :
  SeqStopsK Fence.wide 8 Tryz.prog 57 #[.pointer (some ⟨Bs, 0, none⟩), .pointer (some ⟨Bo, 0, none⟩)] wEncI (KpB n₀ Bo) (fun ys => ys = zs) (fun pre => pre <+: zs) zs.length w := fun l J Jx W hW hJ _ hY h0 =>
 bwritten1_in ops sv l Bs Bo n₀ s hs zs hZ J Jx (fun _ _ _ hj hb => abides_belowI hJ hj hb) hY W ((hW.cell (p := ⟨Bs, 0, none⟩) hBs).trans hc) (hO.below hW) h0
end Go.Proofs.YthdoniefjmphaaaGreatDoor
/- braces.Parse: all items of a text, or none. -/
namespace Go.Proofs.YthdoniefjmphaaaGreatDoor
open Go Go.Proofs Go.RowKit Go.Shelf
set_option maxRecDepth 100000
attribute [local go_sem] Oper.semAt_some
theorem info_itm : (Tryz.prog.info? 70).map (fun i => (i.zero, i.size, i.bytes)) = some (some (.agg #[.string ⟨#[]⟩, .string ⟨#[]⟩, .string ⟨#[]⟩]), 3, 48) := by kernel_rfl
def itmC (zs : List SItm) : List Value := zs.flatMap fun x => [.string ⟨x.1.1.toArray⟩, .string ⟨x.1.2.1.toArray⟩, .string ⟨x.1.2.2.toArray⟩]
theorem itmC_snoc (zs : List SItm) (x : SItm) : itmC (zs ++ [x]) = itmC zs ++ [.string ⟨x.1.1.toArray⟩, .string ⟨x.1.2.1.toArray⟩, .string ⟨x.1.2.2.toArray⟩] := by unfold itmC; simp
def allOkI (zs : List (SItm × Bool)) : Prop := ∀ z ∈ zs, z.2 = true
instance (zs : List (SItm × Bool)) : Decidable (allOkI zs) := by unfold allOkI; infer_instance
def PostI (zs : List (SItm × Bool)) (w : World) (e : Ending) (w' : World) : Prop :=
 Below w.heap.size w w' ∧ ((allOkI zs ∧ ∃ v, e = .returned (.tuple #[v, .bool true]) ∧ w'.ownsRow w.heap.size 70 3 v zs.length (itmC (zs.map (·.1)))) ∨ (¬ allOkI zs ∧ e = .returned (.tuple #[.slice none 0 0, .bool false])))
theorem blk_cellI {W : World} {B j : Nat} {cs : Array Value} {t : TypeId} {v : Value} (h : Blk W B cs t) (hj : cs[j]? = some v) : W.cell? ⟨B, j, none⟩ = some v := by
 unfold World.cell?;dsimp only;rw [show W.heap[B]? = _ from h];exact hj
theorem cells3_new (W : World) (u v x : Value) (T : TypeId) : ∀ j y, [u, v, x][j]? = some y → (W.alloc (.cells #[u, v, x] T)).cell? ((⟨W.heap.size, 0, none⟩ : Addr).add j) = some y := by
 intro j y h;have hb : Blk (W.alloc (.cells #[u, v, x] T)) W.heap.size #[u, v, x] T := heap_alloc_new W _;have e : ((⟨W.heap.size, 0, none⟩ : Addr).add j) = ⟨W.heap.size, j, none⟩ := by rw [Addr.add_lit]; simp
 rw [e];refine blk_cellI hb ?_;rcases j with _ | _ | _ | j
 ·
  simpa using h
 ·
  simpa using h
 ·
  simpa using h
 ·
  simp at h
set_option maxHeartbeats 4000000 in
theorem bparse_any (ops : List STx) (A : Option Addr) (L C : Nat) (s : List UInt8) (hs : s.length ≤ 100000) (zs : List (SItm × Bool)) (hZ : WrSI (ops.map (·.1)) s zs) (hreach : zs.length ≤ 1000) (w : World) (hT : TxAt w.heap.size w (.slice A L C) (ops.map (·.1))) :
  Calls Tryz.prog 29 #[.string ⟨s.toArray⟩, .slice A L C] w (PostI zs w) := by
 obtain ⟨i0, hi, hz0, hz1, hz2⟩ := info_parts info_itm;have HI := Lib.hid hi;have HZ := Lib.hid hz0;have HZ1 := Lib.hid hz1;have HZ2 := Lib.hid hz2;clear hi hz0 hz1 hz2;refine (callsIn_wide (n := 9)).1 ?_;refine callsIn_of_wp_marks Tryz.func29 rfl trivial ?_ rfl;simp only [Tryz.ntmps29, List.size_toArray, List.length_cons, List.length_nil, Nat.reduceAdd, Nat.reduceSub, Array.replicate_succ, Array.replicate_zero, List.push_toArray, List.append_toArray, List.nil_append, List.cons_append]
 gi_wp2
 refine ⟨trivial, (bwritten_in _ _ _ _ _).mono ?_⟩;rintro e w1 ⟨rfl, rfl⟩
 gi_wp2
 obtain ⟨W0, hW0⟩ : ∃ W0, ((((((w).alloc (.cells #[.slice none 0 0] 66)).alloc (.cells #[.bool false] 4)).alloc (.cells #[.slice none 0 0] 66)).alloc (.cells #[.string ⟨s.toArray⟩] 9)).alloc (.cells #[.slice A L C] 88)) = W0 := ⟨_, rfl⟩;have hlp : Below w.heap.size w W0 := by rw [← hW0]; go_grown
 have hsz : W0.heap.size = w.heap.size + 5 := by rw [← hW0]; simp
 have br0 : Boxed W0 (w.heap.size) 66 (.slice none 0 0) := by
  rw [← hW0];have h := Boxed.new (w) 66 (.slice none 0 0)
  (try rw [World.size_alloc] at h)
  exact ((((h.alloc _).alloc _).alloc _).alloc _)
 have be0 : Boxed W0 (w.heap.size + 1) 4 (.bool false) := by
  rw [← hW0];have h := Boxed.new ((w).alloc (.cells #[.slice none 0 0] 66)) 4 (.bool false)
  (try rw [World.size_alloc] at h)
  exact (((h.alloc _).alloc _).alloc _)
 have bv0 : Boxed W0 (w.heap.size + 1 + 1) 66 (.slice none 0 0) := by
  rw [← hW0];have h := Boxed.new (((w).alloc (.cells #[.slice none 0 0] 66)).alloc (.cells #[.bool false] 4)) 66 (.slice none 0 0)
  (try rw [World.size_alloc, World.size_alloc] at h)
  exact ((h.alloc _).alloc _)
 have bsb0 : Boxed W0 (w.heap.size + 1 + 1 + 1) 9 (.string ⟨s.toArray⟩) := by
  rw [← hW0];have h := Boxed.new ((((w).alloc (.cells #[.slice none 0 0] 66)).alloc (.cells #[.bool false] 4)).alloc (.cells #[.slice none 0 0] 66)) 9 (.string ⟨s.toArray⟩)
  (try rw [World.size_alloc, World.size_alloc, World.size_alloc] at h)
  exact (h.alloc _)
 have bb0 : Boxed W0 (w.heap.size + 1 + 1 + 1 + 1) 88 (.slice A L C) := by
  rw [← hW0];have h := Boxed.new (((((w).alloc (.cells #[.slice none 0 0] 66)).alloc (.cells #[.bool false] 4)).alloc (.cells #[.slice none 0 0] 66)).alloc (.cells #[.string ⟨s.toArray⟩] 9)) 88 (.slice A L C)
  (try rw [World.size_alloc, World.size_alloc, World.size_alloc, World.size_alloc] at h)
  exact h
 have bs0 := bsb0.cell;have bo0 := bb0.cell;have hO : OpsAt ops (.slice A L C) (w.heap.size + 1 + 1 + 1 + 1) w.heap.size W0 := ⟨bo0, hT.below hlp, by omega, hlp.size⟩;rw [hW0];clear hW0 hT bo0;refine wpIn_rangeFunc_ownH (F := Fence.wide) (n := 9) rfl (by omega) (gf := 57) (lb := #[.pointer (some ⟨w.heap.size + 1 + 1 + 1, 0, none⟩), .pointer (some ⟨w.heap.size + 1 + 1 + 1 + 1, 0, none⟩)]) rfl trivial (enters_of Tryz.func57 (by kernel_rfl) rfl)
  (encs := wEncI) (Kp := KpB w.heap.size (w.heap.size + 1 + 1 + 1 + 1)) (bwritten_stops ops (.slice A L C) (w.heap.size + 1 + 1 + 1) (w.heap.size + 1 + 1 + 1 + 1) w.heap.size s hs zs hZ W0 (by omega) bs0 hO) kpB_t (kpB_b (by omega)) (Below.refl _ _) (fun _ => rfl)
  (fun pre W => allOkI pre ∧ Boxed W w.heap.size 66 (.slice none 0 0) ∧ Boxed W (w.heap.size + 1) 4 (.bool false) ∧ (∃ v, Boxed W (w.heap.size + 1 + 1) 66 v ∧ W.ownsRow w.heap.size 70 3 v pre.length (itmC (pre.map (·.1))) ∧ True) ∧ Below w.heap.size w W ∧ Boxed W (w.heap.size + 1 + 1 + 1 + 1) 88 (.slice A L C))
  (fun c pre W => (c = .ret ∧ ¬ allOkI pre) ∧ Boxed W w.heap.size 66 (.slice none 0 0) ∧ Boxed W (w.heap.size + 1) 4 (.bool false) ∧ Below w.heap.size w W)
  (OwnFrom.and (ownFrom_pure _ _) (OwnFrom.and (Own.from (boxed_own w.heap.size 66 (fun _ => .slice none 0 0)) _) (OwnFrom.and (Own.from (boxed_own (w.heap.size + 1) 4 (fun _ => .bool false)) _)
   (OwnFrom.and (Own.from (holdsRow_own w.heap.size (w.heap.size + 1 + 1) 66 70 3 (fun (pre : List (SItm × Bool)) => pre.length) (fun (pre : List (SItm × Bool)) => itmC (pre.map (·.1))) (fun _ _ => True)) _) (OwnFrom.and (ownFrom_below (Nat.le_refl _) (by rw [hsz]; omega)) (Own.from (boxed_own (w.heap.size + 1 + 1 + 1 + 1) 88 (fun _ => .slice A L C)) _))))))
  (fun c => OwnFrom.and (ownFrom_pure _ _) (OwnFrom.and (Own.from (boxed_own w.heap.size 66 (fun _ => .slice none 0 0)) _) (OwnFrom.and (Own.from (boxed_own (w.heap.size + 1) 4 (fun _ => .bool false)) _) (ownFrom_below (Nat.le_refl _) (by rw [hsz]; omega)))))
  ⟨(fun z hz => absurd hz (by simp)), br0, be0, ⟨_, bv0, World.ownsRow_nil _ _ _ _, trivial⟩, hlp, bb0⟩
  (fun x a' W => ∃ Bx, w.heap.size + 1 + 1 + 1 + 1 < Bx ∧ Blk W Bx #[.string ⟨x.1.1.1.toArray⟩, .string ⟨x.1.1.2.1.toArray⟩, .string ⟨x.1.1.2.2.toArray⟩] 70 ∧ a' = { tmps := #[.string ⟨s.toArray⟩, .slice A L C, undef, undef, .pointer (some ⟨w.heap.size, 0, none⟩), .pointer (some ⟨w.heap.size + 1, 0, none⟩), .pointer (some ⟨w.heap.size + 1 + 1, 0, none⟩), .pointer (some ⟨Bx, 0, none⟩), .bool x.2, .string ⟨s.toArray⟩, .slice A L C, .func (.func 57) #[] #[.pointer (some ⟨w.heap.size + 1 + 1 + 1, 0, none⟩), .pointer (some ⟨w.heap.size + 1 + 1 + 1 + 1, 0, none⟩)], .agg #[.string ⟨x.1.1.1.toArray⟩, .string ⟨x.1.1.2.1.toArray⟩, .string ⟨x.1.1.2.2.toArray⟩], .bool x.2, undef, undef, undef, undef, undef, undef, undef], defers := [] })
  (fun x a' => ?ax) ?assign ?body ?done ?stop
 case ax => exact fun s X Y row ⟨Bx, q1, q2, q3⟩ hg hr => ⟨Bx, q1, (blk_own (β := Unit) Bx _ _).from _ () X Y row q2 hg hr, q3⟩
 case assign =>
  rintro l pre x W K ⟨hp, hn, he, ⟨v, hv, hrow, _⟩, hB, hob⟩ hK;simp only [wEncI, itmV];have hWs : w.heap.size + 1 + 1 + 1 + 1 < W.heap.size := hob.lt;have HR := Lib.hid hrow;clear hrow
  gi_wp2
  exact hK _ _ ((KeepsOthers.alloc _ _).from _) (kpB_below hB.size hob.lt (below_cells _)) ⟨hp, hn.alloc _, he.alloc _, ⟨v, hv.alloc _, HR.out.alloc _, trivial⟩, below_new hB _, hob.alloc _⟩ ⟨W.heap.size, hWs, heap_alloc_new W _, rfl⟩
 case body =>
  rintro l pre x a' W hl ⟨r, hr⟩ ⟨hp, hn, he, ⟨v, hv, hrow, _⟩, hB, hob⟩ ⟨Bx, hBx, bX, rfl⟩ hlen;obtain ⟨⟨⟨xn, xo, xv⟩, hx⟩, ok⟩ := x;dsimp only at bX;have HR := Lib.hid hrow;have HP := Lib.hid hp;clear hrow hp;cases ok
  ·
   have c3 := hn.cell;have f3 := hn.frozen;have c4 := he.cell;have f4 := he.frozen;have n2 := hn.set (.slice none 0 0);have e2 := (he.other (B' := w.heap.size) (by omega) (.slice none 0 0)).set (.bool false);have n3 := n2.other (B' := w.heap.size + 1) (by omega) (.bool false);have hB2 := (hB.setCell (p := ⟨w.heap.size, 0, none⟩) (Nat.le_refl _) (.slice none 0 0)).setCell (p := ⟨w.heap.size + 1, 0, none⟩) (by simp) (.bool false);have K2 := (KeepsOthers.setCell W ⟨w.heap.size, 0, none⟩ (.slice none 0 0)).trans (KeepsOthers.setCell _ ⟨w.heap.size + 1, 0, none⟩ (.bool false))
   gi_wp2
   exact ⟨K2.from _, ⟨rfl, fun h => absurd (h _ (List.mem_append.2 (.inr (List.mem_singleton.2 rfl)))) (by simp)⟩, n3, e2, hB2⟩
  ·
   have hv3 := hv.cell;have cx0 := blk_cellI (j := 0) bX rfl;have cx1 := blk_cellI (j := 1) bX rfl;have cx2 := blk_cellI (j := 2) bX rfl
   gi_wp2_with (gi_at_builtin; refine wpListIn_append_own _ rfl _ _ 66 rfl w.heap.size 70 i0 (.agg #[.string ⟨#[]⟩, .string ⟨#[]⟩, .string ⟨#[]⟩]) 3 48 Tryz.underlying66 HI.out HZ.out HZ1.out HZ2.out rfl (by decide) _ _ _ rfl (HR.out.alloc _) ⟨W.heap.size, 0, none⟩ 1 1 [.string ⟨xn.toArray⟩, .string ⟨xo.toArray⟩, .string ⟨xv.toArray⟩] rfl rfl (cells3_new _ _ _ _ _) ?k1 ?k2 ?k3 ?k4 ?_)
   case k1 => intro u hu; simp at hu; rcases hu with rfl | rfl | rfl <;> rfl
   case k2 => unfold maxLen; omega
   case k3 => omega
   case k4 => have := hB.size; simp; omega
   intro v' w1 hown' hgrow _;obtain ⟨g', cap', rfl⟩ := ownsRow_succ hown';obtain ⟨hv1, hv2, hr2, hk2, hb2⟩ := hv.appended (by decide) HR.out hB.size (by omega) hown' hgrow;have hc1 := hv1.cell;have hf1 := hv1.frozen;have n2 := ((hn.alloc _).kept hgrow (hn.not_row (by decide) HR.out)).other (B' := w.heap.size + 1 + 1) (by omega) (.slice (some ⟨g', 0, none⟩) (pre.length + 1) cap');have e2 := ((he.alloc _).kept hgrow (he.not_row (by decide) HR.out)).other (B' := w.heap.size + 1 + 1) (by omega) (.slice (some ⟨g', 0, none⟩) (pre.length + 1) cap');have o2 := ((hob.alloc _).kept hgrow (hob.not_row (by decide) HR.out)).other (B' := w.heap.size + 1 + 1) (by omega) (.slice (some ⟨g', 0, none⟩) (pre.length + 1) cap');have HR2 := Lib.hid hr2;have KO : Hid (KpB w.heap.size (w.heap.size + 1 + 1 + 1 + 1) W (w1.setCell ⟨w.heap.size + 1 + 1, 0, none⟩ (.slice (some ⟨g', 0, none⟩) (pre.length + 1) cap'))) := ⟨hb2, fun u hu => by rw [hob.cell] at hu; cases hu; exact o2.cell⟩;clear hown' hgrow hr2 hv1
   gi_wp2
   refine ⟨hk2.from _, KO.out, ?_, n2, e2, ⟨_, hv2, ?_, trivial⟩, hB.trans hb2, o2⟩
   ·
    intro z hz;rcases List.mem_append.1 hz with h | h
    ·
     exact HP.out z h
    ·
     rw [List.mem_singleton.1 h]
   ·
    have := HR2.out;rw [List.map_append, List.length_append];simpa [itmC_snoc] using this
 case done =>
  rintro D ys W hD rfl ⟨hp, hn, he, ⟨v, hv, hrow, _⟩, hB, hob⟩ hK;have hsh : ∃ a len cap, v = .slice a len cap := by
   rcases hrow.2 with ⟨rfl, _⟩ | ⟨g, cap, cur, rfl, _⟩
   ·
    exact ⟨_, _, _, rfl⟩
   ·
    exact ⟨_, _, _, rfl⟩
  obtain ⟨a, len, cap, rfl⟩ := hsh;have HP := Lib.hid hp;have HRW := Lib.hid hrow;have hv3 := hv.cell;have c3 := hn.cell;have f3 := hn.frozen;have c4 := he.cell;have f4 := he.frozen;have n3 := (hn.set (.slice a len cap)).other (B' := w.heap.size + 1) (by omega) (.bool true);have e3 := (he.other (B' := w.heap.size) (by omega) (.slice a len cap)).set (.bool true);have hB3 := (hB.setCell (p := ⟨w.heap.size, 0, none⟩) (Nat.le_refl _) (.slice a len cap)).setCell (p := ⟨w.heap.size + 1, 0, none⟩) (by simp) (.bool true);have K3 := ((KeepsOthers.setCell W ⟨w.heap.size, 0, none⟩ (.slice a len cap)).trans (KeepsOthers.setCell _ ⟨w.heap.size + 1, 0, none⟩ (.bool true))).same D _ hK rfl;have R3 := ownsRow_setCell_other (a := ⟨w.heap.size, 0, none⟩) hrow (hn.not_row (by decide) hrow).symm (.slice a len cap);have R4 := ownsRow_setCell_other (a := ⟨w.heap.size + 1, 0, none⟩) R3 ((he.other (B' := w.heap.size) (by omega) (.slice a len cap)).not_row (by decide) R3).symm (.bool true);have HR4 := Lib.hid R4;clear R3 R4 hp hrow
  gi_wp2
  refine ⟨by simp, .inl ⟨_, _, rfl, run_takeDeferred K3, ?_⟩⟩;have hc3 := cell_kept n3.cell (grownBy_putObj' _ D (.deferred none)) (fun r e => by cases e; exact ⟨_, K3, rfl⟩);have hc4 := cell_kept e3.cell (grownBy_putObj' _ D (.deferred none)) (fun r e => by cases e; exact ⟨_, K3, rfl⟩);exact ⟨.tuple #[.slice a len cap, .bool true], by simp [results, Tryz.f29, go_sem, hc3, hc4], hB3.trans (belowK_b (w := w) (Nat.le_refl _) _ D _ _ (by rw [hsz] at hD; omega) K3 rfl rfl), .inl ⟨HP.out, _, rfl, ownsRow_putObj HR4.out _ K3 rfl⟩⟩
 case stop =>
  rintro D c pre W hD hpre ⟨⟨rfl, hno⟩, hn, he, hB⟩ hK;have c3 := hn.cell;have c4 := he.cell;have HNO : Hid (¬ allOkI zs) := by
   intro h;obtain ⟨t, rfl⟩ := hpre;exact hno fun z hz => h z (List.mem_append.2 (.inl hz))
  gi_wp2
  refine ⟨by simp, .inl ⟨_, _, rfl, run_takeDeferred hK, ?_⟩⟩;have hc3 := cell_kept c3 (grownBy_putObj' _ D (.deferred none)) (fun r e => by cases e; exact ⟨_, hK, rfl⟩);have hc4 := cell_kept c4 (grownBy_putObj' _ D (.deferred none)) (fun r e => by cases e; exact ⟨_, hK, rfl⟩);exact ⟨.tuple #[.slice none 0 0, .bool false], by simp [results, Tryz.f29, go_sem, hc3, hc4], hB.trans (belowK_b (w := w) (Nat.le_refl _) W D _ _ (by rw [hsz] at hD; omega) hK rfl rfl), .inr ⟨HNO.out, rfl⟩⟩
end Go.Proofs.YthdoniefjmphaaaGreatDoor
/- slices.Values of matchers, of items: the iterators' contracts. -/
namespace Go.Proofs.YthdoniefjmphaaaGreatDoor
open Go Go.Proofs Go.RowKit Go.Shelf
set_option maxRecDepth 100000
attribute [local go_sem] Oper.semAt_some
def MtL (n₀ : Nat) (W : World) (sv : Value) (zs : List SItm) : Prop :=
 ((∃ a c, sv = .slice a 0 c) ∧ zs = []) ∨ ∃ b off cap, sv = .slice (some ⟨b, off, none⟩) zs.length cap ∧ b < n₀ ∧ ∀ j x, zs[j]? = some x →
  W.cell? ⟨b, off + j * 3, none⟩ = some (.string ⟨x.1.1.toArray⟩) ∧ W.cell? ⟨b, off + j * 3 + 1, none⟩ = some (.string ⟨x.1.2.1.toArray⟩) ∧ W.cell? ⟨b, off + j * 3 + 2, none⟩ = some (.string ⟨x.1.2.2.toArray⟩)
theorem MtL.below {n₀ : Nat} {A B : World} (h : Below n₀ A B) {sv : Value} {zs : List SItm} : MtL n₀ A sv zs → MtL n₀ B sv zs
 | .inl e => .inl e
 | .inr ⟨b, off, cap, e, hb, hc⟩ => .inr ⟨b, off, cap, e, hb, fun j x hj => ⟨(h.cell (p := ⟨b, off + j * 3, none⟩) hb).trans (hc j x hj).1, (h.cell (p := ⟨b, off + j * 3 + 1, none⟩) hb).trans (hc j x hj).2.1, (h.cell (p := ⟨b, off + j * 3 + 2, none⟩) hb).trans (hc j x hj).2.2⟩⟩
theorem MtL.mono {n₀ n₁ : Nat} {A : World} {sv : Value} {zs : List SItm} (h : MtL n₀ A sv zs) (hn : n₀ ≤ n₁) : MtL n₁ A sv zs := by
 rcases h with h | ⟨b, off, cap, e, hb, hc⟩
 ·
  exact .inl h
 ·
  exact .inr ⟨b, off, cap, e, Nat.lt_of_lt_of_le hb hn, hc⟩
theorem MtL.on {w W : World} {sv : Value} {zs : List SItm} (h : MtL w.heap.size w sv zs) (hb : Below w.heap.size w W) : MtL W.heap.size W sv zs := (h.below hb).mono hb.size
theorem MtL.len {n₀ : Nat} {W : World} {a : Option Addr} {len cap : Nat} {zs : List SItm} (h : MtL n₀ W (.slice a len cap) zs) : len = zs.length := by
 rcases h with ⟨⟨_, _, e⟩, rfl⟩ | ⟨b, off, c, e, _⟩
 ·
  injection e
 ·
  injection e
theorem MtL.slice {n₀ : Nat} {W : World} {sv : Value} {zs : List SItm} (h : MtL n₀ W sv zs) : ∃ a c, sv = .slice a zs.length c := by
 rcases h with ⟨⟨a, c, rfl⟩, rfl⟩ | ⟨b, off, c, rfl, _⟩
 ·
  exact ⟨a, c, rfl⟩
 ·
  exact ⟨_, c, rfl⟩
theorem itmC_at3 (zs : List SItm) : ∀ j x, zs[j]? = some x → (itmC zs)[j * 3]? = some (.string ⟨x.1.1.toArray⟩) ∧ (itmC zs)[j * 3 + 1]? = some (.string ⟨x.1.2.1.toArray⟩) ∧ (itmC zs)[j * 3 + 2]? = some (.string ⟨x.1.2.2.toArray⟩) := by
 induction zs with
 | nil => intro j x h; simp at h
 | cons y t ih =>
  intro j x h;have e : itmC (y :: t) = .string ⟨y.1.1.toArray⟩ :: .string ⟨y.1.2.1.toArray⟩ :: .string ⟨y.1.2.2.toArray⟩ :: itmC t := by unfold itmC; rw [List.flatMap_cons]; rfl
  rw [e];cases j with
  | zero => simp at h; subst h; simp
  | succ j =>
   have := ih j x (by simpa using h);rw [show (j + 1) * 3 = j * 3 + 1 + 1 + 1 by omega];simpa using this
theorem mtl_of_row {W : World} {base e : Nat} {v : Value} {zs : List SItm} (h : W.ownsRow base e 3 v zs.length (itmC zs)) : MtL W.heap.size W v zs := by
 obtain ⟨_, ⟨rfl, h0⟩ | ⟨g, cap, cur, rfl, hb, hg, hnc, hcm, hcs, ht⟩⟩ := h
 ·
  exact .inl ⟨⟨_, _, rfl⟩, List.eq_nil_of_length_eq_zero h0⟩
 ·
  refine .inr ⟨g, 0, cap, rfl, (Array.getElem?_eq_some_iff.1 hg).1, fun j x hj => ?_⟩;obtain ⟨c1, c2, c3⟩ := itmC_at3 zs j x hj;have hjl : j < zs.length := (List.getElem?_eq_some_iff.1 hj).1;rw [← ht, List.getElem?_take] at c1 c2 c3;rw [if_pos (by omega)] at c1 c2 c3;refine ⟨?_, ?_, ?_⟩
  ·
   refine blk_cellI hg ?_; simpa using c1
  ·
   refine blk_cellI hg ?_; simpa using c2
  ·
   refine blk_cellI hg ?_; simpa using c3
set_option maxHeartbeats 4000000 in
theorem mvalues1_in (F : Fence) (n : Nat) (hf : F.fn 39) (hro : F.round = none) (hn : 1 ≤ n) (l Bs n₀ b off cap : Nat) (zs : List SItm) (hreach : zs.length ≤ 1000000) (hb : b < n₀) (J Jx : List SItm → World → Prop)
  (hJa : ∀ pre W o, J pre W → J pre (W.alloc o))
  (hY : ∀ pre x W, J pre W → pre.length < zs.length → YieldAt F (n - 1) Tryz.prog l #[itmV x.1] W fun e W' =>
   (e = .returned (.bool true) ∧ J (pre ++ [x]) W' ∧ Below n₀ W W') ∨ (e = .returned (.bool false) ∧ Jx (pre ++ [x]) W'))
  (W : World) (hn0 : n₀ ≤ W.heap.size) (hBs : W.cell? ⟨Bs, 0, none⟩ = some (.slice (some ⟨b, off, none⟩) zs.length cap))
  (hc : ∀ j x, zs[j]? = some x → W.cell? ⟨b, off + j * 3, none⟩ = some (.string ⟨x.1.1.toArray⟩) ∧ W.cell? ⟨b, off + j * 3 + 1, none⟩ = some (.string ⟨x.1.2.1.toArray⟩) ∧ W.cell? ⟨b, off + j * 3 + 2, none⟩ = some (.string ⟨x.1.2.2.toArray⟩)) (h0 : J [] W) :
  CallsIn F n Tryz.prog 39 #[.func (.yield l) #[] #[], .pointer (some ⟨Bs, 0, none⟩)] W fun e W' => (∃ v, e = .returned v) ∧
   ((∃ ys, ys = zs ∧ J ys W') ∨ (∃ pre, pre <+: zs ∧ Jx pre W')) := by
 refine callsIn_of_wp Tryz.func39 rfl hf ?_ hro;simp only [Tryz.ntmps39, List.size_toArray, List.length_cons, List.length_nil, Nat.reduceAdd, Nat.reduceSub, Array.replicate_succ, Array.replicate_zero, List.push_toArray, List.append_toArray, List.nil_append, List.cons_append]
 gi_wp2
 gi_loopw [7] (fun i wr => ∃ k : Nat, k ≤ zs.length ∧ i = .int .i64 (k : Int) ∧ J (zs.take k) wr ∧ Below n₀ W wr ∧ n₀ ≤ wr.heap.size)
  (fun i _ => zs.length - (intOf i).toNat)
 case atStart => exact ⟨0, Nat.zero_le _, rfl, h0, Below.refl _ _, hn0⟩
 case round =>
  obtain ⟨k, hk, rfl, hJs, hnx, hge⟩ := hrel;by_cases hlt : k < zs.length
  ·
   obtain ⟨x, hx⟩ : ∃ x, zs[k]? = some x := ⟨_, List.getElem?_eq_getElem hlt⟩;obtain ⟨hn1, he1⟩ := List.getElem?_eq_some_iff.1 hx;have htk : zs.take (k + 1) = zs.take k ++ [x] := by rw [List.take_succ_eq_append_getElem hn1, he1]
   obtain ⟨c0, c1, c2⟩ := hc k x hx;have c0 := (hnx.cell (p := ⟨b, off + k * 3, none⟩) hb).trans c0;have c1 := (hnx.cell (p := ⟨b, off + k * 3 + 1, none⟩) hb).trans c1;have c2 := (hnx.cell (p := ⟨b, off + k * 3 + 2, none⟩) hb).trans c2;have hJa' := hJa _ _ (.cells #[.string ⟨x.1.1.toArray⟩, .string ⟨x.1.2.1.toArray⟩, .string ⟨x.1.2.2.toArray⟩] 49) hJs;obtain ⟨fn, tmps, assign, body, hy, hR⟩ := hY _ x _ hJa' (by rw [List.length_take]; omega);unfold itmV at hy;have h1 : (0 : Int) ≤ (k : Int) := by omega
   have h2 : (k : Int) < (zs.length : Int) := by omega
   have TK := Lib.hid htk;clear htk hx he1
   gi_wp2
   refine hR.mono ?_;rintro e W3 (⟨rfl, hJ3, hk3⟩ | ⟨rfl, hJx3⟩)
   ·
    gi_wp2
    go_roundw
    case rel => exact ⟨k + 1, by omega, by simp, by rw [TK.out]; exact hJ3, hnx.trans (((Below.refl _ _).alloc hge _).trans hk3), Nat.le_trans (Nat.le_trans hge (by simp)) hk3.size⟩
    case measure => simp [intOf]; omega
   ·
    gi_wp2
    refine bodyPost_ret (results_none rfl _ _ _) rfl ?_;exact ⟨⟨_, rfl⟩, .inr ⟨_, by rw [← TK.out]; exact List.take_prefix _ _, hJx3⟩⟩
  ·
   obtain rfl : k = zs.length := by omega
   gi_wp2
   go_end0
   rw [List.take_length] at hJs;exact ⟨⟨_, rfl⟩, .inl ⟨_, rfl, hJs⟩⟩
theorem mvalues1_nil_in (F : Fence) (n : Nat) (hf : F.fn 39) (hro : F.round = none) (l Bs : Nat) (J : List SItm → World → Prop) (a : Option Addr) (c : Nat) (W : World) (hBs : W.cell? ⟨Bs, 0, none⟩ = some (.slice a 0 c)) (h0 : J [] W) :
  CallsIn F n Tryz.prog 39 #[.func (.yield l) #[] #[], .pointer (some ⟨Bs, 0, none⟩)] W fun e W' => (∃ v, e = .returned v) ∧ J [] W' := by
 refine callsIn_of_wp Tryz.func39 rfl hf ?_ hro;simp only [Tryz.ntmps39, List.size_toArray, List.length_cons, List.length_nil, Nat.reduceAdd, Nat.reduceSub, Array.replicate_succ, Array.replicate_zero, List.push_toArray, List.append_toArray, List.nil_append, List.cons_append]
 gi_wp2
 gi_loopw [7] (fun i wr => i = .int .i64 0 ∧ J [] wr) (fun _ _ => 0)
 case atStart => exact ⟨rfl, h0⟩
 case round =>
  obtain ⟨rfl, hJs⟩ := hrel
  gi_wp2
  go_end0
  exact ⟨⟨_, rfl⟩, hJs⟩
theorem mvalues_in (F : Fence) (n : Nat) (hf : F.fn 25) (hro : F.round = none) (a : Option Addr) (len cap : Nat) (w : World) :
  CallsIn F n Tryz.prog 25 #[.slice a len cap] w fun e w' => e = .returned (.func (.func 39) #[] #[.pointer (some ⟨w.heap.size, 0, none⟩)]) ∧ w' = w.alloc (.cells #[.slice a len cap] 22) := by
 refine callsIn_of_wp Tryz.func25 rfl hf ?_ hro;simp only [Tryz.ntmps25, List.size_toArray, List.length_cons, List.length_nil, Nat.reduceAdd, Nat.reduceSub, Array.replicate_succ, Array.replicate_zero, List.push_toArray, List.append_toArray, List.nil_append, List.cons_append]
 gi_wp2
 go_ret
 exact ⟨rfl, rfl⟩
theorem mvalues_stops (F : Fence) (n : Nat) (hf : F.fn 39) (hro : F.round = none) (hn : 1 ≤ n) (Bs n₀ : Nat) (sv : Value) (zs : List SItm) (hreach : zs.length ≤ 1000000) (w : World) (hBs : Bs < w.heap.size) (hn₀ : n₀ ≤ w.heap.size)
  (hc : w.cell? ⟨Bs, 0, none⟩ = some sv) (hI : MtL n₀ w sv zs) :
  SeqStopsK F n Tryz.prog 39 #[.pointer (some ⟨Bs, 0, none⟩)] (fun x : SItm => #[itmV x.1]) (Below n₀) (fun ys => ys = zs) (fun pre => pre <+: zs) zs.length w := fun l J Jx W hW hJ _ hY h0 => by
 have hc' := (hW.cell (p := ⟨Bs, 0, none⟩) hBs).trans hc;rcases hI.below (hW.mono hn₀) with ⟨⟨a0, k0, rfl⟩, rfl⟩ | ⟨b, off, cap, rfl, hb, hcs⟩
 ·
  exact (mvalues1_nil_in F n hf hro l Bs J a0 k0 W hc' h0).mono fun e W' ⟨he, hj⟩ => ⟨he, .inl ⟨_, rfl, hj⟩⟩
 ·
  exact (mvalues1_in F n hf hro hn l Bs n₀ b off cap zs hreach hb J Jx (fun pre W1 o h => hJ pre W1 (W1.alloc o) none h (World.grownBy_alloc _ _ none) (fun r e => by cases e)) hY W (Nat.le_trans hn₀ hW.size) hc' hcs h0).mono fun e W' h => h
set_option maxHeartbeats 4000000 in
theorem ivalues1_in (F : Fence) (n : Nat) (hf : F.fn 46) (hro : F.round = none) (hn : 1 ≤ n) (l Bs n₀ b off cap : Nat) (zs : List SItm) (hreach : zs.length ≤ 1000000) (hb : b < n₀) (J Jx : List SItm → World → Prop)
  (hJa : ∀ pre W o, J pre W → J pre (W.alloc o))
  (hY : ∀ pre x W, J pre W → pre.length < zs.length → YieldAt F (n - 1) Tryz.prog l #[itmV x.1] W fun e W' =>
   (e = .returned (.bool true) ∧ J (pre ++ [x]) W' ∧ Below n₀ W W') ∨ (e = .returned (.bool false) ∧ Jx (pre ++ [x]) W'))
  (W : World) (hn0 : n₀ ≤ W.heap.size) (hBs : W.cell? ⟨Bs, 0, none⟩ = some (.slice (some ⟨b, off, none⟩) zs.length cap))
  (hc : ∀ j x, zs[j]? = some x → W.cell? ⟨b, off + j * 3, none⟩ = some (.string ⟨x.1.1.toArray⟩) ∧ W.cell? ⟨b, off + j * 3 + 1, none⟩ = some (.string ⟨x.1.2.1.toArray⟩) ∧ W.cell? ⟨b, off + j * 3 + 2, none⟩ = some (.string ⟨x.1.2.2.toArray⟩)) (h0 : J [] W) :
  CallsIn F n Tryz.prog 46 #[.func (.yield l) #[] #[], .pointer (some ⟨Bs, 0, none⟩)] W fun e W' => (∃ v, e = .returned v) ∧
   ((∃ ys, ys = zs ∧ J ys W') ∨ (∃ pre, pre <+: zs ∧ Jx pre W')) := by
 refine callsIn_of_wp Tryz.func46 rfl hf ?_ hro;simp only [Tryz.ntmps46, List.size_toArray, List.length_cons, List.length_nil, Nat.reduceAdd, Nat.reduceSub, Array.replicate_succ, Array.replicate_zero, List.push_toArray, List.append_toArray, List.nil_append, List.cons_append]
 gi_wp2
 gi_loopw [7] (fun i wr => ∃ k : Nat, k ≤ zs.length ∧ i = .int .i64 (k : Int) ∧ J (zs.take k) wr ∧ Below n₀ W wr ∧ n₀ ≤ wr.heap.size)
  (fun i _ => zs.length - (intOf i).toNat)
 case atStart => exact ⟨0, Nat.zero_le _, rfl, h0, Below.refl _ _, hn0⟩
 case round =>
  obtain ⟨k, hk, rfl, hJs, hnx, hge⟩ := hrel;by_cases hlt : k < zs.length
  ·
   obtain ⟨x, hx⟩ : ∃ x, zs[k]? = some x := ⟨_, List.getElem?_eq_getElem hlt⟩;obtain ⟨hn1, he1⟩ := List.getElem?_eq_some_iff.1 hx;have htk : zs.take (k + 1) = zs.take k ++ [x] := by rw [List.take_succ_eq_append_getElem hn1, he1]
   obtain ⟨c0, c1, c2⟩ := hc k x hx;have c0 := (hnx.cell (p := ⟨b, off + k * 3, none⟩) hb).trans c0;have c1 := (hnx.cell (p := ⟨b, off + k * 3 + 1, none⟩) hb).trans c1;have c2 := (hnx.cell (p := ⟨b, off + k * 3 + 2, none⟩) hb).trans c2;have hJa' := hJa _ _ (.cells #[.string ⟨x.1.1.toArray⟩, .string ⟨x.1.2.1.toArray⟩, .string ⟨x.1.2.2.toArray⟩] 70) hJs;obtain ⟨fn, tmps, assign, body, hy, hR⟩ := hY _ x _ hJa' (by rw [List.length_take]; omega);unfold itmV at hy;have h1 : (0 : Int) ≤ (k : Int) := by omega
   have h2 : (k : Int) < (zs.length : Int) := by omega
   have TK := Lib.hid htk;clear htk hx he1
   gi_wp2
   refine hR.mono ?_;rintro e W3 (⟨rfl, hJ3, hk3⟩ | ⟨rfl, hJx3⟩)
   ·
    gi_wp2
    go_roundw
    case rel => exact ⟨k + 1, by omega, by simp, by rw [TK.out]; exact hJ3, hnx.trans (((Below.refl _ _).alloc hge _).trans hk3), Nat.le_trans (Nat.le_trans hge (by simp)) hk3.size⟩
    case measure => simp [intOf]; omega
   ·
    gi_wp2
    refine bodyPost_ret (results_none rfl _ _ _) rfl ?_;exact ⟨⟨_, rfl⟩, .inr ⟨_, by rw [← TK.out]; exact List.take_prefix _ _, hJx3⟩⟩
  ·
   obtain rfl : k = zs.length := by omega
   gi_wp2
   go_end0
   rw [List.take_length] at hJs;exact ⟨⟨_, rfl⟩, .inl ⟨_, rfl, hJs⟩⟩
theorem ivalues1_nil_in (F : Fence) (n : Nat) (hf : F.fn 46) (hro : F.round = none) (l Bs : Nat) (J : List SItm → World → Prop) (a : Option Addr) (c : Nat) (W : World) (hBs : W.cell? ⟨Bs, 0, none⟩ = some (.slice a 0 c)) (h0 : J [] W) :
  CallsIn F n Tryz.prog 46 #[.func (.yield l) #[] #[], .pointer (some ⟨Bs, 0, none⟩)] W fun e W' => (∃ v, e = .returned v) ∧ J [] W' := by
 refine callsIn_of_wp Tryz.func46 rfl hf ?_ hro;simp only [Tryz.ntmps46, List.size_toArray, List.length_cons, List.length_nil, Nat.reduceAdd, Nat.reduceSub, Array.replicate_succ, Array.replicate_zero, List.push_toArray, List.append_toArray, List.nil_append, List.cons_append]
 gi_wp2
 gi_loopw [7] (fun i wr => i = .int .i64 0 ∧ J [] wr) (fun _ _ => 0)
 case atStart => exact ⟨rfl, h0⟩
 case round =>
  obtain ⟨rfl, hJs⟩ := hrel
  gi_wp2
  go_end0
  exact ⟨⟨_, rfl⟩, hJs⟩
theorem ivalues_in (F : Fence) (n : Nat) (hf : F.fn 30) (hro : F.round = none) (a : Option Addr) (len cap : Nat) (w : World) :
  CallsIn F n Tryz.prog 30 #[.slice a len cap] w fun e w' => e = .returned (.func (.func 46) #[] #[.pointer (some ⟨w.heap.size, 0, none⟩)]) ∧ w' = w.alloc (.cells #[.slice a len cap] 66) := by
 refine callsIn_of_wp Tryz.func30 rfl hf ?_ hro;simp only [Tryz.ntmps30, List.size_toArray, List.length_cons, List.length_nil, Nat.reduceAdd, Nat.reduceSub, Array.replicate_succ, Array.replicate_zero, List.push_toArray, List.append_toArray, List.nil_append, List.cons_append]
 gi_wp2
 go_ret
 exact ⟨rfl, rfl⟩
theorem ivalues_stops (F : Fence) (n : Nat) (hf : F.fn 46) (hro : F.round = none) (hn : 1 ≤ n) (Bs n₀ : Nat) (sv : Value) (zs : List SItm) (hreach : zs.length ≤ 1000000) (w : World) (hBs : Bs < w.heap.size) (hn₀ : n₀ ≤ w.heap.size)
  (hc : w.cell? ⟨Bs, 0, none⟩ = some sv) (hI : MtL n₀ w sv zs) :
  SeqStopsK F n Tryz.prog 46 #[.pointer (some ⟨Bs, 0, none⟩)] (fun x : SItm => #[itmV x.1]) (Below n₀) (fun ys => ys = zs) (fun pre => pre <+: zs) zs.length w := fun l J Jx W hW hJ _ hY h0 => by
 have hc' := (hW.cell (p := ⟨Bs, 0, none⟩) hBs).trans hc;rcases hI.below (hW.mono hn₀) with ⟨⟨a0, k0, rfl⟩, rfl⟩ | ⟨b, off, cap, rfl, hb, hcs⟩
 ·
  exact (ivalues1_nil_in F n hf hro l Bs J a0 k0 W hc' h0).mono fun e W' ⟨he, hj⟩ => ⟨he, .inl ⟨_, rfl, hj⟩⟩
 ·
  exact (ivalues1_in F n hf hro hn l Bs n₀ b off cap zs hreach hb J Jx (fun pre W1 o h => hJ pre W1 (W1.alloc o) none h (World.grownBy_alloc _ _ none) (fun r e => by cases e)) hY W (Nat.le_trans hn₀ hW.size) hc' hcs h0).mono fun e W' h => h
end Go.Proofs.YthdoniefjmphaaaGreatDoor
