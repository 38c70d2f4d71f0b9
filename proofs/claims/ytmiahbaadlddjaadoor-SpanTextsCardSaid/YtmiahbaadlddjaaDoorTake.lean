/- take: one part of a text of a time; what the library answers is handed in. -/
import Derived.Test.YtmiahbaadlddjaaDoorUnits
import Derived.Test.YtmiahbaadlddjaaDoorShelf
import Derived.Test.YtmiahbaadlddjaaDoorRows
import Derived.Shelf.Strings.SlTrimAscii
import Derived.Lib.ConvBytes
namespace Go.Proofs.YtmiahbaadlddjaaDoor
open Go Go.Proofs Go.RowKit Go.Shelf
set_option maxRecDepth 100000
theorem heap_carry {w w' : World} {i : Nat} {o : Obj} (hb : Below w.heap.size w w') (h : w.heap[i]? = some o) : w'.heap[i]? = some o := (hb.block i (Array.getElem?_eq_some_iff.1 h).1).trans h
theorem three_cells {w : World} {B T : Nat} {a b c : Value} (h : w.heap[B]? = some (.cells #[a, b, c] T (0, 0))) : w.cell? ⟨B, 0, none⟩ = some a ∧ w.cell? ⟨B, 1, none⟩ = some b ∧ w.cell? ⟨B, 2, none⟩ = some c := by
  refine ⟨?_, ?_, ?_⟩ <;> simp [World.cell?, h]
set_option maxHeartbeats 400000 in
theorem take_none (u : Fin 5) (s D tl : ByteArray) (hs : s.size ≤ 1000) (hts : tl.size ≤ s.size) (e2 : s.extract 0 (s.size - tl.size) = D) (e3 : D.toList.isEmpty = true) (T : Hid (∀ W, Calls Tryd.prog 35 #[.string s, .string ⟨#[48, 49, 50, 51, 52, 53, 54, 55, 56, 57]⟩] W fun e w' => e = .returned (.string tl) ∧ Below W.heap.size W w')) (w : World) :
    Calls Tryd.prog 29 #[unitV u, .string s] w fun e w' => e = .returned (.tuple #[.int .u64 0, .string ⟨#[]⟩, .bool false]) ∧ Below w.heap.size w w' := by
  unfold unitV
  generalize (⟨(unitWord u).toArray⟩ : ByteArray) = uw at *
  generalize unitMost u = um at *
  generalize unitSize u = uz
  go_enter Tryd.func29, Tryd.ntmps29
  go_wp2_with (first | (go_at_call 35; refine (T.out _).mono ?_; rintro e w1 ⟨rfl, hb1⟩; have q1 := heap_carry hb1 (heap_alloc_new w _)))
  have HB : Below w.heap.size w w1 := (below_new (Below.refl w.heap.size w) _).trans (hb1.mono (by simp))
  go_ret3
  exact ⟨rfl, HB⟩
set_option maxHeartbeats 400000 in
theorem take_zero (u : Fin 5) (s D tl : ByteArray) (hs : s.size ≤ 1000) (hts : tl.size ≤ s.size) (e2 : s.extract 0 (s.size - tl.size) = D) (hpos : 0 < D.size) (hc : D[0].toNat = 48) (e3 : D.toList.isEmpty = false) (T : Hid (∀ W, Calls Tryd.prog 35 #[.string s, .string ⟨#[48, 49, 50, 51, 52, 53, 54, 55, 56, 57]⟩] W fun e w' => e = .returned (.string tl) ∧ Below W.heap.size W w')) (w : World) :
    Calls Tryd.prog 29 #[unitV u, .string s] w fun e w' => e = .returned (.tuple #[.int .u64 0, .string ⟨#[]⟩, .bool false]) ∧ Below w.heap.size w w' := by
  unfold unitV
  generalize (⟨(unitWord u).toArray⟩ : ByteArray) = uw at *
  generalize unitMost u = um at *
  generalize unitSize u = uz
  go_enter Tryd.func29, Tryd.ntmps29
  go_wp2_with (first | (go_at_call 35; refine (T.out _).mono ?_; rintro e w1 ⟨rfl, hb1⟩; have q1 := heap_carry hb1 (heap_alloc_new w _)))
  have HB : Below w.heap.size w w1 := (below_new (Below.refl w.heap.size w) _).trans (hb1.mono (by simp))
  go_ret3
  exact ⟨rfl, HB⟩
set_option maxHeartbeats 400000 in
theorem take_last_no (u : Fin 5) (s D tl : ByteArray) (hs : s.size ≤ 1000) (hts : tl.size ≤ s.size) (e2 : s.extract 0 (s.size - tl.size) = D) (n : Nat) (hpos : 0 < D.size) (hc : D[0].toNat ≠ 48) (e3 : D.toList.isEmpty = false)  (hw : (tl.toList == (⟨(unitWord u).toArray⟩ : ByteArray).toList) = false)  (T : Hid (∀ W, Calls Tryd.prog 35 #[.string s, .string ⟨#[48, 49, 50, 51, 52, 53, 54, 55, 56, 57]⟩] W fun e w' => e = .returned (.string tl) ∧ Below W.heap.size W w')) (IX : Hid (∀ W, Calls Tryd.prog 36 #[.string tl, .string ⟨#[48, 49, 50, 51, 52, 53, 54, 55, 56, 57]⟩] W fun e w' => e = .returned (.int .i64 (-1)) ∧ Below W.heap.size W w')) (w : World) (PU : Hid (∀ W, Below w.heap.size w W → Calls Tryd.prog 37 #[.string D, .int .i64 10, .int .i64 64] W fun e w' => (∃ E, e = .returned (.tuple #[.int .u64 (n : Int), E])) ∧ Below W.heap.size W w')) :
    Calls Tryd.prog 29 #[unitV u, .string s] w fun e w' => e = .returned (.tuple #[.int .u64 0, .string ⟨#[]⟩, .bool false]) ∧ Below w.heap.size w w' := by
  unfold unitV
  generalize (⟨(unitWord u).toArray⟩ : ByteArray) = uw at *
  generalize unitMost u = um at *
  generalize unitSize u = uz
  go_enter Tryd.func29, Tryd.ntmps29
  go_wp2_with (first | (go_at_call 35; refine (T.out _).mono ?_; rintro e w1 ⟨rfl, hb1⟩; have q1 := heap_carry hb1 (heap_alloc_new w _)) | (go_at_call 36; refine (IX.out _).mono ?_; rintro e w2 ⟨rfl, hb2⟩; have q2 := heap_carry hb2 q1; have HB2 : Below w.heap.size w w2 := (below_new (Below.refl w.heap.size w) _).trans ((hb1.mono (by simp)).trans (hb2.mono (Nat.le_of_lt (Array.getElem?_eq_some_iff.1 q1).1)))) | (go_at_call 37; refine (PU.out _ HB2).mono ?_; rintro e w3 ⟨⟨E, rfl⟩, hb3⟩; have q3 := heap_carry hb3 q2; obtain ⟨c0, c1, c2⟩ := three_cells q3))
  have HB : Below w.heap.size w w3 := HB2.trans (hb3.mono (Nat.le_of_lt (Array.getElem?_eq_some_iff.1 q2).1))
  go_ret3
  exact ⟨rfl, HB⟩
set_option maxHeartbeats 400000 in
theorem take_last_many (u : Fin 5) (s D tl : ByteArray) (hs : s.size ≤ 1000) (hts : tl.size ≤ s.size) (e2 : s.extract 0 (s.size - tl.size) = D) (n : Nat) (hpos : 0 < D.size) (hc : D[0].toNat ≠ 48) (e3 : D.toList.isEmpty = false)  (hw : (tl.toList == (⟨(unitWord u).toArray⟩ : ByteArray).toList) = true) (hn2 : unitMost u < n) (T : Hid (∀ W, Calls Tryd.prog 35 #[.string s, .string ⟨#[48, 49, 50, 51, 52, 53, 54, 55, 56, 57]⟩] W fun e w' => e = .returned (.string tl) ∧ Below W.heap.size W w')) (IX : Hid (∀ W, Calls Tryd.prog 36 #[.string tl, .string ⟨#[48, 49, 50, 51, 52, 53, 54, 55, 56, 57]⟩] W fun e w' => e = .returned (.int .i64 (-1)) ∧ Below W.heap.size W w')) (w : World) (PU : Hid (∀ W, Below w.heap.size w W → Calls Tryd.prog 37 #[.string D, .int .i64 10, .int .i64 64] W fun e w' => (∃ E, e = .returned (.tuple #[.int .u64 (n : Int), E])) ∧ Below W.heap.size W w')) :
    Calls Tryd.prog 29 #[unitV u, .string s] w fun e w' => e = .returned (.tuple #[.int .u64 0, .string ⟨#[]⟩, .bool false]) ∧ Below w.heap.size w w' := by
  unfold unitV
  generalize (⟨(unitWord u).toArray⟩ : ByteArray) = uw at *
  generalize unitMost u = um at *
  generalize unitSize u = uz
  have d1 : decide (um < n) = true := by simp; omega
  go_enter Tryd.func29, Tryd.ntmps29
  go_wp2_with (first | (go_at_call 35; refine (T.out _).mono ?_; rintro e w1 ⟨rfl, hb1⟩; have q1 := heap_carry hb1 (heap_alloc_new w _)) | (go_at_call 36; refine (IX.out _).mono ?_; rintro e w2 ⟨rfl, hb2⟩; have q2 := heap_carry hb2 q1; have HB2 : Below w.heap.size w w2 := (below_new (Below.refl w.heap.size w) _).trans ((hb1.mono (by simp)).trans (hb2.mono (Nat.le_of_lt (Array.getElem?_eq_some_iff.1 q1).1)))) | (go_at_call 37; refine (PU.out _ HB2).mono ?_; rintro e w3 ⟨⟨E, rfl⟩, hb3⟩; have q3 := heap_carry hb3 q2; obtain ⟨c0, c1, c2⟩ := three_cells q3))
  have HB : Below w.heap.size w w3 := HB2.trans (hb3.mono (Nat.le_of_lt (Array.getElem?_eq_some_iff.1 q2).1))
  go_ret3
  exact ⟨rfl, HB⟩
set_option maxHeartbeats 400000 in
theorem take_last_yes (u : Fin 5) (s D tl : ByteArray) (hs : s.size ≤ 1000) (hts : tl.size ≤ s.size) (e2 : s.extract 0 (s.size - tl.size) = D) (n : Nat) (hpos : 0 < D.size) (hc : D[0].toNat ≠ 48) (e3 : D.toList.isEmpty = false)  (hw : (tl.toList == (⟨(unitWord u).toArray⟩ : ByteArray).toList) = true) (hn2 : n ≤ unitMost u) (T : Hid (∀ W, Calls Tryd.prog 35 #[.string s, .string ⟨#[48, 49, 50, 51, 52, 53, 54, 55, 56, 57]⟩] W fun e w' => e = .returned (.string tl) ∧ Below W.heap.size W w')) (IX : Hid (∀ W, Calls Tryd.prog 36 #[.string tl, .string ⟨#[48, 49, 50, 51, 52, 53, 54, 55, 56, 57]⟩] W fun e w' => e = .returned (.int .i64 (-1)) ∧ Below W.heap.size W w')) (w : World) (PU : Hid (∀ W, Below w.heap.size w W → Calls Tryd.prog 37 #[.string D, .int .i64 10, .int .i64 64] W fun e w' => (∃ E, e = .returned (.tuple #[.int .u64 (n : Int), E])) ∧ Below W.heap.size W w')) :
    Calls Tryd.prog 29 #[unitV u, .string s] w fun e w' => e = .returned (.tuple #[.int .u64 (n : Int), .string ⟨#[]⟩, .bool true]) ∧ Below w.heap.size w w' := by
  unfold unitV
  generalize (⟨(unitWord u).toArray⟩ : ByteArray) = uw at *
  generalize unitMost u = um at *
  generalize unitSize u = uz
  have d1 : decide (um < n) = false := by simp; omega
  have e9 : tl.extract tl.size tl.size = ⟨#[]⟩ := by simp; rfl
  go_enter Tryd.func29, Tryd.ntmps29
  go_wp2_with (first | (go_at_call 35; refine (T.out _).mono ?_; rintro e w1 ⟨rfl, hb1⟩; have q1 := heap_carry hb1 (heap_alloc_new w _)) | (go_at_call 36; refine (IX.out _).mono ?_; rintro e w2 ⟨rfl, hb2⟩; have q2 := heap_carry hb2 q1; have HB2 : Below w.heap.size w w2 := (below_new (Below.refl w.heap.size w) _).trans ((hb1.mono (by simp)).trans (hb2.mono (Nat.le_of_lt (Array.getElem?_eq_some_iff.1 q1).1)))) | (go_at_call 37; refine (PU.out _ HB2).mono ?_; rintro e w3 ⟨⟨E, rfl⟩, hb3⟩; have q3 := heap_carry hb3 q2; obtain ⟨c0, c1, c2⟩ := three_cells q3))
  have HB : Below w.heap.size w w3 := HB2.trans (hb3.mono (Nat.le_of_lt (Array.getElem?_eq_some_iff.1 q2).1))
  go_region
  all_goals go_wp2
  all_goals (go_ret3; exact ⟨rfl, HB.drew⟩)
set_option maxHeartbeats 400000 in
theorem take_rest_no (u : Fin 5) (s D tl : ByteArray) (hs : s.size ≤ 1000) (hts : tl.size ≤ s.size) (e2 : s.extract 0 (s.size - tl.size) = D) (n : Nat) (hpos : 0 < D.size) (hc : D[0].toNat ≠ 48) (e3 : D.toList.isEmpty = false) (i : Nat) (wd R : ByteArray) (hi : i ≤ tl.size) (e4 : tl.extract 0 i = wd) (e5 : wd.size = i) (e6 : tl.extract i tl.size = R) (hw : (wd.toList == (⟨(unitWord u).toArray⟩ : ByteArray).toList) = false)  (T : Hid (∀ W, Calls Tryd.prog 35 #[.string s, .string ⟨#[48, 49, 50, 51, 52, 53, 54, 55, 56, 57]⟩] W fun e w' => e = .returned (.string tl) ∧ Below W.heap.size W w')) (IX : Hid (∀ W, Calls Tryd.prog 36 #[.string tl, .string ⟨#[48, 49, 50, 51, 52, 53, 54, 55, 56, 57]⟩] W fun e w' => e = .returned (.int .i64 (i : Int)) ∧ Below W.heap.size W w')) (w : World) (PU : Hid (∀ W, Below w.heap.size w W → Calls Tryd.prog 37 #[.string D, .int .i64 10, .int .i64 64] W fun e w' => (∃ E, e = .returned (.tuple #[.int .u64 (n : Int), E])) ∧ Below W.heap.size W w')) :
    Calls Tryd.prog 29 #[unitV u, .string s] w fun e w' => e = .returned (.tuple #[.int .u64 0, .string ⟨#[]⟩, .bool false]) ∧ Below w.heap.size w w' := by
  unfold unitV
  generalize (⟨(unitWord u).toArray⟩ : ByteArray) = uw at *
  generalize unitMost u = um at *
  generalize unitSize u = uz
  have i0 : (0 : Int) ≤ (i : Int) := by omega
  go_enter Tryd.func29, Tryd.ntmps29
  go_wp2_with (first | (go_at_call 35; refine (T.out _).mono ?_; rintro e w1 ⟨rfl, hb1⟩; have q1 := heap_carry hb1 (heap_alloc_new w _)) | (go_at_call 36; refine (IX.out _).mono ?_; rintro e w2 ⟨rfl, hb2⟩; have q2 := heap_carry hb2 q1; have HB2 : Below w.heap.size w w2 := (below_new (Below.refl w.heap.size w) _).trans ((hb1.mono (by simp)).trans (hb2.mono (Nat.le_of_lt (Array.getElem?_eq_some_iff.1 q1).1)))) | (go_at_call 37; refine (PU.out _ HB2).mono ?_; rintro e w3 ⟨⟨E, rfl⟩, hb3⟩; have q3 := heap_carry hb3 q2; obtain ⟨c0, c1, c2⟩ := three_cells q3))
  have HB : Below w.heap.size w w3 := HB2.trans (hb3.mono (Nat.le_of_lt (Array.getElem?_eq_some_iff.1 q2).1))
  go_ret3
  exact ⟨rfl, HB⟩
set_option maxHeartbeats 400000 in
theorem take_rest_many (u : Fin 5) (s D tl : ByteArray) (hs : s.size ≤ 1000) (hts : tl.size ≤ s.size) (e2 : s.extract 0 (s.size - tl.size) = D) (n : Nat) (hpos : 0 < D.size) (hc : D[0].toNat ≠ 48) (e3 : D.toList.isEmpty = false) (i : Nat) (wd R : ByteArray) (hi : i ≤ tl.size) (e4 : tl.extract 0 i = wd) (e5 : wd.size = i) (e6 : tl.extract i tl.size = R) (hw : (wd.toList == (⟨(unitWord u).toArray⟩ : ByteArray).toList) = true) (hn2 : unitMost u < n) (T : Hid (∀ W, Calls Tryd.prog 35 #[.string s, .string ⟨#[48, 49, 50, 51, 52, 53, 54, 55, 56, 57]⟩] W fun e w' => e = .returned (.string tl) ∧ Below W.heap.size W w')) (IX : Hid (∀ W, Calls Tryd.prog 36 #[.string tl, .string ⟨#[48, 49, 50, 51, 52, 53, 54, 55, 56, 57]⟩] W fun e w' => e = .returned (.int .i64 (i : Int)) ∧ Below W.heap.size W w')) (w : World) (PU : Hid (∀ W, Below w.heap.size w W → Calls Tryd.prog 37 #[.string D, .int .i64 10, .int .i64 64] W fun e w' => (∃ E, e = .returned (.tuple #[.int .u64 (n : Int), E])) ∧ Below W.heap.size W w')) :
    Calls Tryd.prog 29 #[unitV u, .string s] w fun e w' => e = .returned (.tuple #[.int .u64 0, .string ⟨#[]⟩, .bool false]) ∧ Below w.heap.size w w' := by
  unfold unitV
  generalize (⟨(unitWord u).toArray⟩ : ByteArray) = uw at *
  generalize unitMost u = um at *
  generalize unitSize u = uz
  have i0 : (0 : Int) ≤ (i : Int) := by omega
  have d1 : decide (um < n) = true := by simp; omega
  go_enter Tryd.func29, Tryd.ntmps29
  go_wp2_with (first | (go_at_call 35; refine (T.out _).mono ?_; rintro e w1 ⟨rfl, hb1⟩; have q1 := heap_carry hb1 (heap_alloc_new w _)) | (go_at_call 36; refine (IX.out _).mono ?_; rintro e w2 ⟨rfl, hb2⟩; have q2 := heap_carry hb2 q1; have HB2 : Below w.heap.size w w2 := (below_new (Below.refl w.heap.size w) _).trans ((hb1.mono (by simp)).trans (hb2.mono (Nat.le_of_lt (Array.getElem?_eq_some_iff.1 q1).1)))) | (go_at_call 37; refine (PU.out _ HB2).mono ?_; rintro e w3 ⟨⟨E, rfl⟩, hb3⟩; have q3 := heap_carry hb3 q2; obtain ⟨c0, c1, c2⟩ := three_cells q3))
  have HB : Below w.heap.size w w3 := HB2.trans (hb3.mono (Nat.le_of_lt (Array.getElem?_eq_some_iff.1 q2).1))
  go_ret3
  exact ⟨rfl, HB⟩
set_option maxHeartbeats 400000 in
theorem take_rest_yes (u : Fin 5) (s D tl : ByteArray) (hs : s.size ≤ 1000) (hts : tl.size ≤ s.size) (e2 : s.extract 0 (s.size - tl.size) = D) (n : Nat) (hpos : 0 < D.size) (hc : D[0].toNat ≠ 48) (e3 : D.toList.isEmpty = false) (i : Nat) (wd R : ByteArray) (hi : i ≤ tl.size) (e4 : tl.extract 0 i = wd) (e5 : wd.size = i) (e6 : tl.extract i tl.size = R) (hw : (wd.toList == (⟨(unitWord u).toArray⟩ : ByteArray).toList) = true) (hn2 : n ≤ unitMost u) (T : Hid (∀ W, Calls Tryd.prog 35 #[.string s, .string ⟨#[48, 49, 50, 51, 52, 53, 54, 55, 56, 57]⟩] W fun e w' => e = .returned (.string tl) ∧ Below W.heap.size W w')) (IX : Hid (∀ W, Calls Tryd.prog 36 #[.string tl, .string ⟨#[48, 49, 50, 51, 52, 53, 54, 55, 56, 57]⟩] W fun e w' => e = .returned (.int .i64 (i : Int)) ∧ Below W.heap.size W w')) (w : World) (PU : Hid (∀ W, Below w.heap.size w W → Calls Tryd.prog 37 #[.string D, .int .i64 10, .int .i64 64] W fun e w' => (∃ E, e = .returned (.tuple #[.int .u64 (n : Int), E])) ∧ Below W.heap.size W w')) :
    Calls Tryd.prog 29 #[unitV u, .string s] w fun e w' => e = .returned (.tuple #[.int .u64 (n : Int), .string R, .bool true]) ∧ Below w.heap.size w w' := by
  unfold unitV
  generalize (⟨(unitWord u).toArray⟩ : ByteArray) = uw at *
  generalize unitMost u = um at *
  generalize unitSize u = uz
  have i0 : (0 : Int) ≤ (i : Int) := by omega
  have d1 : decide (um < n) = false := by simp; omega
  go_enter Tryd.func29, Tryd.ntmps29
  go_wp2_with (first | (go_at_call 35; refine (T.out _).mono ?_; rintro e w1 ⟨rfl, hb1⟩; have q1 := heap_carry hb1 (heap_alloc_new w _)) | (go_at_call 36; refine (IX.out _).mono ?_; rintro e w2 ⟨rfl, hb2⟩; have q2 := heap_carry hb2 q1; have HB2 : Below w.heap.size w w2 := (below_new (Below.refl w.heap.size w) _).trans ((hb1.mono (by simp)).trans (hb2.mono (Nat.le_of_lt (Array.getElem?_eq_some_iff.1 q1).1)))) | (go_at_call 37; refine (PU.out _ HB2).mono ?_; rintro e w3 ⟨⟨E, rfl⟩, hb3⟩; have q3 := heap_carry hb3 q2; obtain ⟨c0, c1, c2⟩ := three_cells q3))
  have HB : Below w.heap.size w w3 := HB2.trans (hb3.mono (Nat.le_of_lt (Array.getElem?_eq_some_iff.1 q2).1))
  go_region
  all_goals go_wp2
  all_goals (go_ret3; exact ⟨rfl, HB.drew⟩)
end Go.Proofs.YtmiahbaadlddjaaDoor
