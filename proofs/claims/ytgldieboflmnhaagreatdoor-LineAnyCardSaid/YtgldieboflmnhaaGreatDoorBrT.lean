/- braces.take: one item at the front of a text. -/
import Derived.Test.YtgldieboflmnhaaGreatDoorBrL
namespace Go.Proofs.YtgldieboflmnhaaGreatDoor
open Go Go.Proofs Go.RowKit Go.Shelf
set_option maxRecDepth 100000
theorem tw_len (p : UInt8 → Bool) (l : List UInt8) : (l.takeWhile p).length ≤ l.length := (List.takeWhile_sublist (p := p) (l := l)).length_le
theorem dw_len (p : UInt8 → Bool) (l : List UInt8) : (l.dropWhile p).length ≤ l.length := (List.dropWhile_sublist (p := p) (l := l)).length_le
theorem trimI_len (s p : List UInt8) : (Lib.trimPrefix s p).length ≤ s.length := by
  unfold Lib.trimPrefix; split
  · rw [List.length_drop]; omega
  · exact Nat.le_refl _
theorem pre_len {s p : List UInt8} (h : Lib.hasPrefix s p = true) : p.length ≤ s.length := by
  unfold Lib.hasPrefix at h
  exact (List.isPrefixOf_iff_prefix.1 h).length_le
theorem clone_any (s : List UInt8) (hs : s.length ≤ 100000) (w : World) : Calls Tryz.prog 104 #[.string ⟨s.toArray⟩] w fun e w' => e = .returned (.string ⟨s.toArray⟩) ∧ Below w.heap.size w w' := by
  have hz : (⟨s.toArray⟩ : ByteArray).size ≤ 281474976710656 := by rw [Lib.size_eq]; show s.toArray.toList.length ≤ _; simp; omega
  have HC := Lib.hid (Tryz.stringslite_Clone ⟨s.toArray⟩ w hz)
  clear hz
  go_enter Tryz.func104, Tryz.ntmps104
  go_wp2_with fail
  refine HC.out.mono ?_
  rintro e w1 ⟨rfl, hb⟩
  go_wp2
  go_ret
  exact ⟨rfl, hb⟩
set_option maxHeartbeats 2000000 in
theorem btake_a (a s s1 n s2 op : List UInt8) (b1 : Bool) (ok : Bool) (ol or_ : List UInt8) (hn : n.length ≤ 100000) (hop : op.length ≤ s2.length) (hs2 : s2.length ≤ 100000) (sv : Value) (w : World)
    (H1 : Hid (∀ W : World, Calls Tryz.prog 43 #[.string ⟨s.toArray⟩, .string ⟨a.toArray⟩] W fun e w' => e = .returned (.tuple #[.string ⟨s1.toArray⟩, .bool b1]) ∧ Below W.heap.size W w'))
    (H2 : Hid (∀ W : World, Below w.heap.size w W → Calls Tryz.prog 101 #[.string ⟨s1.toArray⟩, sv] W fun e w' => e = .returned (.tuple #[.string ⟨n.toArray⟩, .string ⟨s2.toArray⟩]) ∧ Below W.heap.size W w'))
    (H3 : Hid (∀ W : World, Below w.heap.size w W → Calls Tryz.prog 102 #[.string ⟨s2.toArray⟩, sv] W fun e w' => e = .returned (.string ⟨op.toArray⟩) ∧ Below W.heap.size W w'))
    (H5 : Hid (∀ W : World, Calls Tryz.prog 103 #[.string ⟨(s2.drop op.length).toArray⟩] W fun e w' => e = .returned (.tuple #[.string ⟨ol.toArray⟩, .string ⟨or_.toArray⟩, .bool ok]) ∧ Below W.heap.size W w')) (hb : b1 = false) :
    Calls Tryz.prog 82 #[.string ⟨a.toArray⟩, .string ⟨s.toArray⟩, sv] w fun e w' => e = .returned (.tuple #[.agg #[.string ⟨#[]⟩, .string ⟨#[]⟩, .string ⟨#[]⟩], .string ⟨#[]⟩, .bool false]) ∧ Below w.heap.size w w' := by
  have EX := Lib.hid (ext_back s2 op.length)
  have p0 : (0 : Int) ≤ (op.length : Int) := by omega
  have p1 : (op.length : Int) ≤ (s2.length : Int) := by omega
  have eop : (⟨op.toArray⟩ : ByteArray).toList = op := by rw [ByteArray.toList_eq]
  subst hb
  go_enter Tryz.func82, Tryz.ntmps82
  go_wp2_with fail
  refine (H1.out _).mono ?_
  rintro e w1 ⟨rfl, hb1⟩
  have DL : At w1 (w.heap.size) [.string ⟨#[]⟩, .string ⟨#[]⟩, .string ⟨#[]⟩] := by have h := (At.new (w) #[.string ⟨#[]⟩, .string ⟨#[]⟩, .string ⟨#[]⟩] 94).below hb1; simpa using h
  have B : Below w.heap.size w w1 := below_then (below_new (Below.refl _ _) (.cells #[.string ⟨#[]⟩, .string ⟨#[]⟩, .string ⟨#[]⟩] 94)) hb1
  clear hb1
  have aL0 := DL.cell 0 _ rfl
  have zL0 := DL.free 0 _ rfl
  have aL1 := DL.cell 1 _ rfl
  have zL1 := DL.free 1 _ rfl
  have aL2 := DL.cell 2 _ rfl
  have zL2 := DL.free 2 _ rfl
  have nL := DL.lt
  go_wp2_with fail
  refine (H2.out _ B).mono ?_
  rintro e w2 ⟨rfl, hb2⟩
  clear aL0 zL0 aL1 zL1 aL2 zL2 nL
  have DL := DL.below hb2
  have B : Below w.heap.size w w2 := below_then (B) hb2
  clear hb2
  have aL0 := DL.cell 0 _ rfl
  have zL0 := DL.free 0 _ rfl
  have aL1 := DL.cell 1 _ rfl
  have zL1 := DL.free 1 _ rfl
  have aL2 := DL.cell 2 _ rfl
  have zL2 := DL.free 2 _ rfl
  have nL := DL.lt
  go_wp2_with fail
  refine (H3.out _ B).mono ?_
  rintro e w3 ⟨rfl, hb3⟩
  clear aL0 zL0 aL1 zL1 aL2 zL2 nL
  have DL := DL.below hb3
  have B : Below w.heap.size w w3 := below_then (B) hb3
  clear hb3
  have aL0 := DL.cell 0 _ rfl
  have zL0 := DL.free 0 _ rfl
  have aL1 := DL.cell 1 _ rfl
  have zL1 := DL.free 1 _ rfl
  have aL2 := DL.cell 2 _ rfl
  have zL2 := DL.free 2 _ rfl
  have nL := DL.lt
  go_wp2_with fail
  rw [EX.out]
  refine (H5.out _).mono ?_
  rintro e w4 ⟨rfl, hb4⟩
  clear aL0 zL0 aL1 zL1 aL2 zL2 nL
  have DL := DL.below hb4
  have B : Below w.heap.size w w4 := below_then (B) hb4
  clear hb4
  have aL0 := DL.cell 0 _ rfl
  have zL0 := DL.free 0 _ rfl
  have aL1 := DL.cell 1 _ rfl
  have zL1 := DL.free 1 _ rfl
  have aL2 := DL.cell 2 _ rfl
  have zL2 := DL.free 2 _ rfl
  have nL := DL.lt
  go_wp2
  refine bodyPost_ret (by simp [results, Tryz.results82, go_sem, aL0, aL1, aL2]; try rfl) rfl ?_
  exact ⟨rfl, by go_grown⟩
set_option maxHeartbeats 2000000 in
theorem btake_b (a s s1 n s2 op : List UInt8) (b1 : Bool) (ok : Bool) (ol or_ : List UInt8) (hn : n.length ≤ 100000) (hop : op.length ≤ s2.length) (hs2 : s2.length ≤ 100000) (sv : Value) (w : World)
    (H1 : Hid (∀ W : World, Calls Tryz.prog 43 #[.string ⟨s.toArray⟩, .string ⟨a.toArray⟩] W fun e w' => e = .returned (.tuple #[.string ⟨s1.toArray⟩, .bool b1]) ∧ Below W.heap.size W w'))
    (H2 : Hid (∀ W : World, Below w.heap.size w W → Calls Tryz.prog 101 #[.string ⟨s1.toArray⟩, sv] W fun e w' => e = .returned (.tuple #[.string ⟨n.toArray⟩, .string ⟨s2.toArray⟩]) ∧ Below W.heap.size W w'))
    (H3 : Hid (∀ W : World, Below w.heap.size w W → Calls Tryz.prog 102 #[.string ⟨s2.toArray⟩, sv] W fun e w' => e = .returned (.string ⟨op.toArray⟩) ∧ Below W.heap.size W w'))
    (H5 : Hid (∀ W : World, Calls Tryz.prog 103 #[.string ⟨(s2.drop op.length).toArray⟩] W fun e w' => e = .returned (.tuple #[.string ⟨ol.toArray⟩, .string ⟨or_.toArray⟩, .bool ok]) ∧ Below W.heap.size W w')) (hb : b1 = true) (h0 : op = []) :
    Calls Tryz.prog 82 #[.string ⟨a.toArray⟩, .string ⟨s.toArray⟩, sv] w fun e w' => e = .returned (.tuple #[.agg #[.string ⟨#[]⟩, .string ⟨#[]⟩, .string ⟨#[]⟩], .string ⟨#[]⟩, .bool false]) ∧ Below w.heap.size w w' := by
  have EX := Lib.hid (ext_back s2 op.length)
  have p0 : (0 : Int) ≤ (op.length : Int) := by omega
  have p1 : (op.length : Int) ≤ (s2.length : Int) := by omega
  have eop : (⟨op.toArray⟩ : ByteArray).toList = op := by rw [ByteArray.toList_eq]
  subst hb
  have q0 : (op == []) = true := by rw [h0]; rfl
  have HO := Lib.hid h0
  clear h0
  go_enter Tryz.func82, Tryz.ntmps82
  go_wp2_with fail
  refine (H1.out _).mono ?_
  rintro e w1 ⟨rfl, hb1⟩
  have DL : At w1 (w.heap.size) [.string ⟨#[]⟩, .string ⟨#[]⟩, .string ⟨#[]⟩] := by have h := (At.new (w) #[.string ⟨#[]⟩, .string ⟨#[]⟩, .string ⟨#[]⟩] 94).below hb1; simpa using h
  have B : Below w.heap.size w w1 := below_then (below_new (Below.refl _ _) (.cells #[.string ⟨#[]⟩, .string ⟨#[]⟩, .string ⟨#[]⟩] 94)) hb1
  clear hb1
  have aL0 := DL.cell 0 _ rfl
  have zL0 := DL.free 0 _ rfl
  have aL1 := DL.cell 1 _ rfl
  have zL1 := DL.free 1 _ rfl
  have aL2 := DL.cell 2 _ rfl
  have zL2 := DL.free 2 _ rfl
  have nL := DL.lt
  go_wp2_with fail
  refine (H2.out _ B).mono ?_
  rintro e w2 ⟨rfl, hb2⟩
  clear aL0 zL0 aL1 zL1 aL2 zL2 nL
  have DL := DL.below hb2
  have B : Below w.heap.size w w2 := below_then (B) hb2
  clear hb2
  have aL0 := DL.cell 0 _ rfl
  have zL0 := DL.free 0 _ rfl
  have aL1 := DL.cell 1 _ rfl
  have zL1 := DL.free 1 _ rfl
  have aL2 := DL.cell 2 _ rfl
  have zL2 := DL.free 2 _ rfl
  have nL := DL.lt
  go_wp2_with fail
  refine (H3.out _ B).mono ?_
  rintro e w3 ⟨rfl, hb3⟩
  clear aL0 zL0 aL1 zL1 aL2 zL2 nL
  have DL := DL.below hb3
  have B : Below w.heap.size w w3 := below_then (B) hb3
  clear hb3
  have aL0 := DL.cell 0 _ rfl
  have zL0 := DL.free 0 _ rfl
  have aL1 := DL.cell 1 _ rfl
  have zL1 := DL.free 1 _ rfl
  have aL2 := DL.cell 2 _ rfl
  have zL2 := DL.free 2 _ rfl
  have nL := DL.lt
  go_wp2_with fail
  rw [EX.out]
  refine (H5.out _).mono ?_
  rintro e w4 ⟨rfl, hb4⟩
  clear aL0 zL0 aL1 zL1 aL2 zL2 nL
  have DL := DL.below hb4
  have B : Below w.heap.size w w4 := below_then (B) hb4
  clear hb4
  have aL0 := DL.cell 0 _ rfl
  have zL0 := DL.free 0 _ rfl
  have aL1 := DL.cell 1 _ rfl
  have zL1 := DL.free 1 _ rfl
  have aL2 := DL.cell 2 _ rfl
  have zL2 := DL.free 2 _ rfl
  have nL := DL.lt
  go_wp2
  refine bodyPost_ret (by simp [results, Tryz.results82, go_sem, aL0, aL1, aL2]; try rfl) rfl ?_
  exact ⟨rfl, by go_grown⟩
set_option maxHeartbeats 2000000 in
theorem btake_d (a s s1 n s2 op : List UInt8) (b1 : Bool) (ok : Bool) (ol or_ : List UInt8) (hn : n.length ≤ 100000) (hop : op.length ≤ s2.length) (hs2 : s2.length ≤ 100000) (sv : Value) (w : World)
    (H1 : Hid (∀ W : World, Calls Tryz.prog 43 #[.string ⟨s.toArray⟩, .string ⟨a.toArray⟩] W fun e w' => e = .returned (.tuple #[.string ⟨s1.toArray⟩, .bool b1]) ∧ Below W.heap.size W w'))
    (H2 : Hid (∀ W : World, Below w.heap.size w W → Calls Tryz.prog 101 #[.string ⟨s1.toArray⟩, sv] W fun e w' => e = .returned (.tuple #[.string ⟨n.toArray⟩, .string ⟨s2.toArray⟩]) ∧ Below W.heap.size W w'))
    (H3 : Hid (∀ W : World, Below w.heap.size w W → Calls Tryz.prog 102 #[.string ⟨s2.toArray⟩, sv] W fun e w' => e = .returned (.string ⟨op.toArray⟩) ∧ Below W.heap.size W w'))
    (H5 : Hid (∀ W : World, Calls Tryz.prog 103 #[.string ⟨(s2.drop op.length).toArray⟩] W fun e w' => e = .returned (.tuple #[.string ⟨ol.toArray⟩, .string ⟨or_.toArray⟩, .bool ok]) ∧ Below W.heap.size W w')) (hb : b1 = true) (h0 : op ≠ []) (hk : ok = false) :
    Calls Tryz.prog 82 #[.string ⟨a.toArray⟩, .string ⟨s.toArray⟩, sv] w fun e w' => e = .returned (.tuple #[.agg #[.string ⟨#[]⟩, .string ⟨#[]⟩, .string ⟨#[]⟩], .string ⟨#[]⟩, .bool false]) ∧ Below w.heap.size w w' := by
  have EX := Lib.hid (ext_back s2 op.length)
  have p0 : (0 : Int) ≤ (op.length : Int) := by omega
  have p1 : (op.length : Int) ≤ (s2.length : Int) := by omega
  have eop : (⟨op.toArray⟩ : ByteArray).toList = op := by rw [ByteArray.toList_eq]
  subst hb hk
  have q0 : (op == []) = false := by rw [beq_eq_false_iff_ne]; exact h0
  have HO := Lib.hid h0
  clear h0
  go_enter Tryz.func82, Tryz.ntmps82
  go_wp2_with fail
  refine (H1.out _).mono ?_
  rintro e w1 ⟨rfl, hb1⟩
  have DL : At w1 (w.heap.size) [.string ⟨#[]⟩, .string ⟨#[]⟩, .string ⟨#[]⟩] := by have h := (At.new (w) #[.string ⟨#[]⟩, .string ⟨#[]⟩, .string ⟨#[]⟩] 94).below hb1; simpa using h
  have B : Below w.heap.size w w1 := below_then (below_new (Below.refl _ _) (.cells #[.string ⟨#[]⟩, .string ⟨#[]⟩, .string ⟨#[]⟩] 94)) hb1
  clear hb1
  have aL0 := DL.cell 0 _ rfl
  have zL0 := DL.free 0 _ rfl
  have aL1 := DL.cell 1 _ rfl
  have zL1 := DL.free 1 _ rfl
  have aL2 := DL.cell 2 _ rfl
  have zL2 := DL.free 2 _ rfl
  have nL := DL.lt
  go_wp2_with fail
  refine (H2.out _ B).mono ?_
  rintro e w2 ⟨rfl, hb2⟩
  clear aL0 zL0 aL1 zL1 aL2 zL2 nL
  have DL := DL.below hb2
  have B : Below w.heap.size w w2 := below_then (B) hb2
  clear hb2
  have aL0 := DL.cell 0 _ rfl
  have zL0 := DL.free 0 _ rfl
  have aL1 := DL.cell 1 _ rfl
  have zL1 := DL.free 1 _ rfl
  have aL2 := DL.cell 2 _ rfl
  have zL2 := DL.free 2 _ rfl
  have nL := DL.lt
  go_wp2_with fail
  refine (H3.out _ B).mono ?_
  rintro e w3 ⟨rfl, hb3⟩
  clear aL0 zL0 aL1 zL1 aL2 zL2 nL
  have DL := DL.below hb3
  have B : Below w.heap.size w w3 := below_then (B) hb3
  clear hb3
  have aL0 := DL.cell 0 _ rfl
  have zL0 := DL.free 0 _ rfl
  have aL1 := DL.cell 1 _ rfl
  have zL1 := DL.free 1 _ rfl
  have aL2 := DL.cell 2 _ rfl
  have zL2 := DL.free 2 _ rfl
  have nL := DL.lt
  go_wp2_with fail
  rw [EX.out]
  refine (H5.out _).mono ?_
  rintro e w4 ⟨rfl, hb4⟩
  clear aL0 zL0 aL1 zL1 aL2 zL2 nL
  have DL := DL.below hb4
  have B : Below w.heap.size w w4 := below_then (B) hb4
  clear hb4
  have aL0 := DL.cell 0 _ rfl
  have zL0 := DL.free 0 _ rfl
  have aL1 := DL.cell 1 _ rfl
  have zL1 := DL.free 1 _ rfl
  have aL2 := DL.cell 2 _ rfl
  have zL2 := DL.free 2 _ rfl
  have nL := DL.lt
  go_wp2
  refine bodyPost_ret (by simp [results, Tryz.results82, go_sem, aL0, aL1, aL2]; try rfl) rfl ?_
  exact ⟨rfl, by go_grown⟩
set_option maxHeartbeats 2000000 in
theorem btake_e (a s s1 n s2 op : List UInt8) (b1 : Bool) (ok : Bool) (ol or_ : List UInt8) (hn : n.length ≤ 100000) (hop : op.length ≤ s2.length) (hs2 : s2.length ≤ 100000) (sv : Value) (w : World)
    (H1 : Hid (∀ W : World, Calls Tryz.prog 43 #[.string ⟨s.toArray⟩, .string ⟨a.toArray⟩] W fun e w' => e = .returned (.tuple #[.string ⟨s1.toArray⟩, .bool b1]) ∧ Below W.heap.size W w'))
    (H2 : Hid (∀ W : World, Below w.heap.size w W → Calls Tryz.prog 101 #[.string ⟨s1.toArray⟩, sv] W fun e w' => e = .returned (.tuple #[.string ⟨n.toArray⟩, .string ⟨s2.toArray⟩]) ∧ Below W.heap.size W w'))
    (H3 : Hid (∀ W : World, Below w.heap.size w W → Calls Tryz.prog 102 #[.string ⟨s2.toArray⟩, sv] W fun e w' => e = .returned (.string ⟨op.toArray⟩) ∧ Below W.heap.size W w'))
    (H5 : Hid (∀ W : World, Calls Tryz.prog 103 #[.string ⟨(s2.drop op.length).toArray⟩] W fun e w' => e = .returned (.tuple #[.string ⟨ol.toArray⟩, .string ⟨or_.toArray⟩, .bool ok]) ∧ Below W.heap.size W w')) (hb : b1 = true) (h0 : op ≠ []) (hk : ok = true) :
    Calls Tryz.prog 82 #[.string ⟨a.toArray⟩, .string ⟨s.toArray⟩, sv] w fun e w' => e = .returned (.tuple #[.agg #[.string ⟨n.toArray⟩, .string ⟨op.toArray⟩, .string ⟨ol.toArray⟩], .string ⟨or_.toArray⟩, .bool true]) ∧ Below w.heap.size w w' := by
  have EX := Lib.hid (ext_back s2 op.length)
  have p0 : (0 : Int) ≤ (op.length : Int) := by omega
  have p1 : (op.length : Int) ≤ (s2.length : Int) := by omega
  have eop : (⟨op.toArray⟩ : ByteArray).toList = op := by rw [ByteArray.toList_eq]
  subst hb hk
  have q0 : (op == []) = false := by rw [beq_eq_false_iff_ne]; exact h0
  have HO := Lib.hid h0
  clear h0
  have HC := Lib.hid (fun W => clone_any n hn W)
  go_enter Tryz.func82, Tryz.ntmps82
  go_wp2_with fail
  refine (H1.out _).mono ?_
  rintro e w1 ⟨rfl, hb1⟩
  have DL : At w1 (w.heap.size) [.string ⟨#[]⟩, .string ⟨#[]⟩, .string ⟨#[]⟩] := by have h := (At.new (w) #[.string ⟨#[]⟩, .string ⟨#[]⟩, .string ⟨#[]⟩] 94).below hb1; simpa using h
  have B : Below w.heap.size w w1 := below_then (below_new (Below.refl _ _) (.cells #[.string ⟨#[]⟩, .string ⟨#[]⟩, .string ⟨#[]⟩] 94)) hb1
  clear hb1
  have aL0 := DL.cell 0 _ rfl
  have zL0 := DL.free 0 _ rfl
  have aL1 := DL.cell 1 _ rfl
  have zL1 := DL.free 1 _ rfl
  have aL2 := DL.cell 2 _ rfl
  have zL2 := DL.free 2 _ rfl
  have nL := DL.lt
  go_wp2_with fail
  refine (H2.out _ B).mono ?_
  rintro e w2 ⟨rfl, hb2⟩
  clear aL0 zL0 aL1 zL1 aL2 zL2 nL
  have DL := DL.below hb2
  have B : Below w.heap.size w w2 := below_then (B) hb2
  clear hb2
  have aL0 := DL.cell 0 _ rfl
  have zL0 := DL.free 0 _ rfl
  have aL1 := DL.cell 1 _ rfl
  have zL1 := DL.free 1 _ rfl
  have aL2 := DL.cell 2 _ rfl
  have zL2 := DL.free 2 _ rfl
  have nL := DL.lt
  go_wp2_with fail
  refine (H3.out _ B).mono ?_
  rintro e w3 ⟨rfl, hb3⟩
  clear aL0 zL0 aL1 zL1 aL2 zL2 nL
  have DL := DL.below hb3
  have B : Below w.heap.size w w3 := below_then (B) hb3
  clear hb3
  have aL0 := DL.cell 0 _ rfl
  have zL0 := DL.free 0 _ rfl
  have aL1 := DL.cell 1 _ rfl
  have zL1 := DL.free 1 _ rfl
  have aL2 := DL.cell 2 _ rfl
  have zL2 := DL.free 2 _ rfl
  have nL := DL.lt
  go_wp2_with fail
  rw [EX.out]
  refine (H5.out _).mono ?_
  rintro e w4 ⟨rfl, hb4⟩
  clear aL0 zL0 aL1 zL1 aL2 zL2 nL
  have DL := DL.below hb4
  have B : Below w.heap.size w w4 := below_then (B) hb4
  clear hb4
  have aL0 := DL.cell 0 _ rfl
  have zL0 := DL.free 0 _ rfl
  have aL1 := DL.cell 1 _ rfl
  have zL1 := DL.free 1 _ rfl
  have aL2 := DL.cell 2 _ rfl
  have zL2 := DL.free 2 _ rfl
  have nL := DL.lt
  go_wp2_with fail
  refine (HC.out _).mono ?_
  rintro e w5 ⟨rfl, hb5⟩
  clear aL0 zL0 aL1 zL1 aL2 zL2 nL
  have DL := DL.below hb5
  have B : Below w.heap.size w w5 := below_then (B) hb5
  clear hb5
  have aL0 := DL.cell 0 _ rfl
  have zL0 := DL.free 0 _ rfl
  have aL1 := DL.cell 1 _ rfl
  have zL1 := DL.free 1 _ rfl
  have aL2 := DL.cell 2 _ rfl
  have zL2 := DL.free 2 _ rfl
  have nL := DL.lt
  go_wp2
  refine bodyPost_ret (by simp [results, Tryz.results82, go_sem, aL0, aL1, aL2]; try rfl) rfl ?_
  exact ⟨rfl, by go_grown⟩
theorem takeI_q (ops : List (List UInt8)) (a s : List UInt8) : takeI ops a s = match tqR ((cutN ops (Lib.trimPrefix s a)).2.drop (longR ops (cutN ops (Lib.trimPrefix s a)).2).length) with
    | none => none
    | some (v, r) => if Lib.hasPrefix s a = true ∧ longR ops (cutN ops (Lib.trimPrefix s a)).2 ≠ [] then some (((cutN ops (Lib.trimPrefix s a)).1, longR ops (cutN ops (Lib.trimPrefix s a)).2, v), r) else none := by
  unfold takeI tqR
  generalize (cutN ops (Lib.trimPrefix s a)).2.drop (longR ops (cutN ops (Lib.trimPrefix s a)).2).length = X
  by_cases h : Lib.hasPrefix X [34] = true
  · rw [if_pos h]
    cases tE [] (Lib.trimPrefix X [34]) with
    | none => rfl
    | some vr => obtain ⟨v, r⟩ := vr; simp only [h, and_true]
  · rw [if_neg h]
    cases tE [] (Lib.trimPrefix X [34]) with
    | none => rfl
    | some vr => obtain ⟨v, r⟩ := vr; dsimp only; rw [if_neg (by rintro ⟨_, _, q⟩; exact h q)]
theorem btake_any (zs : List STx) (sv : Value) (a s : List UInt8) (hs : s.length ≤ 100000) (w : World) (hI : TxAt w.heap.size w sv (zs.map (·.1))) :
    Calls Tryz.prog 82 #[.string ⟨a.toArray⟩, .string ⟨s.toArray⟩, sv] w fun e w' => e = .returned (takeIV (takeI (zs.map (·.1)) a s)) ∧ Below w.heap.size w w' := by
  obtain ⟨A, L, C, hsv⟩ : ∃ A L C, sv = .slice A L C := by obtain ⟨_, b, off, cap, e, _⟩ := hI; exact ⟨_, _, _, e⟩
  subst hsv
  have H1 := Lib.hid (fun W => (Tryz.strings_CutPrefix ⟨s.toArray⟩ ⟨a.toArray⟩ W).mono (R' := fun e w' => e = .returned (.tuple #[.string ⟨(Lib.trimPrefix s a).toArray⟩, .bool (Lib.hasPrefix s a)]) ∧ Below W.heap.size W w') (fun e w' ⟨x, y⟩ => ⟨x, by rw [y]; exact Below.refl _ _⟩))
  have l1 := trimI_len s a
  rw [takeI_q]
  generalize Lib.trimPrefix s a = s1 at *
  generalize Lib.hasPrefix s a = b1 at *
  have H2 := Lib.hid (fun (W : World) (hb : Below w.heap.size w W) => cutName_any (zs.map (·.1)) A L C s1 (by omega) W ((hI.below hb).mono hb.size))
  have l2 : (cutN (zs.map (·.1)) s1).1.length ≤ s1.length := tw_len _ _
  have l3 : (cutN (zs.map (·.1)) s1).2.length ≤ s1.length := dw_len _ _
  generalize (cutN (zs.map (·.1)) s1).1 = n at *
  generalize (cutN (zs.map (·.1)) s1).2 = s2 at *
  have H3 := Lib.hid (fun (W : World) (hb : Below w.heap.size w W) => longest_any zs A L C s2 (by omega) W ((hI.below hb).mono hb.size))
  have l4 := pre_len (long_pre (zs.map (·.1)) s2)
  generalize longR (zs.map (·.1)) s2 = op at *
  have l5 : (s2.drop op.length).length ≤ 100000 := by rw [List.length_drop]; omega
  have H5 := fun W => takeQ_any (s2.drop op.length) l5 W
  cases ho : tqR (s2.drop op.length) with
  | none =>
    rw [ho] at H5
    have H5 := Lib.hid H5
    dsimp only [takeIV]
    cases b1 with
    | false => exact btake_a a s s1 n s2 op false false [] [] (by omega) l4 (by omega) _ w H1 H2 H3 H5 rfl
    | true =>
      by_cases h0 : op = []
      · exact btake_b a s s1 n s2 op true false [] [] (by omega) l4 (by omega) _ w H1 H2 H3 H5 rfl h0
      · exact btake_d a s s1 n s2 op true false [] [] (by omega) l4 (by omega) _ w H1 H2 H3 H5 rfl h0 rfl
  | some vr =>
    obtain ⟨v, r⟩ := vr
    rw [ho] at H5
    have H5 := Lib.hid H5
    dsimp only
    cases b1 with
    | false =>
      rw [if_neg (by simp)]
      exact btake_a a s s1 n s2 op false true v r (by omega) l4 (by omega) _ w H1 H2 H3 H5 rfl
    | true =>
      by_cases h0 : op = []
      · rw [if_neg (by simp [h0])]
        exact btake_b a s s1 n s2 op true true v r (by omega) l4 (by omega) _ w H1 H2 H3 H5 rfl h0
      · rw [if_pos ⟨rfl, h0⟩]
        exact btake_e a s s1 n s2 op true true v r (by omega) l4 (by omega) _ w H1 H2 H3 H5 rfl h0 rfl
end Go.Proofs.YtgldieboflmnhaaGreatDoor
