/- label.take: one label at the front of a text. -/
import Derived.Test.YtggipcihigddkaaDoorCut
namespace Go.Proofs.YtggipcihigddkaaDoor
open Go Go.Proofs Go.RowKit Go.Shelf
set_option maxRecDepth 100000
def takeL (a s : List UInt8) : Option (Lab × List UInt8) :=
  match tE [] (Lib.trimPrefix (cutR (Lib.trimPrefix s a)).2.1 [34]) with
  | none => none
  | some (v, r) => if Lib.hasPrefix s a = true ∧ Lib.hasPrefix (cutR (Lib.trimPrefix s a)).2.1 [34] = true then some (((cutR (Lib.trimPrefix s a)).1, v), r) else none
def takeLV : Option (Lab × List UInt8) → Value
  | none => .tuple #[.agg #[.string ⟨#[]⟩, .string ⟨#[]⟩], .string ⟨#[]⟩, .bool false]
  | some (x, r) => .tuple #[.agg #[.string ⟨x.1.toArray⟩, .string ⟨x.2.toArray⟩], .string ⟨r.toArray⟩, .bool true]
theorem trim_len (s p : List UInt8) : (Lib.trimPrefix s p).length ≤ s.length := by
  unfold Lib.trimPrefix; split
  · rw [List.length_drop]; omega
  · exact Nat.le_refl _
theorem cut_len (l : List UInt8) : (cutR l).2.1.length ≤ l.length := by
  unfold cutR; split
  · dsimp only
    rw [List.length_drop]
    have := (List.dropWhile_sublist (p := (· != 61)) (l := l)).length_le
    omega
  · simp
set_option maxHeartbeats 1000000 in
theorem take_any (a s : List UInt8) (hs : s.length ≤ 100000) (w : World) :
    Calls Tryd.prog 55 #[.string ⟨a.toArray⟩, .string ⟨s.toArray⟩] w fun e w' => e = .returned (takeLV (takeL a s)) ∧ Below w.heap.size w w' := by
  have P1 := fun W => (Tryd.strings_CutPrefix ⟨s.toArray⟩ ⟨a.toArray⟩ W).mono (R' := fun e w' => e = .returned (.tuple #[.string ⟨(Lib.trimPrefix s a).toArray⟩, .bool (Lib.hasPrefix s a)]) ∧ Below W.heap.size W w') (fun e w' ⟨x, y⟩ => ⟨x, by rw [y]; exact Below.refl _ _⟩)
  have hl1 := trim_len s a
  unfold takeL
  generalize Lib.trimPrefix s a = s1 at *
  generalize Lib.hasPrefix s a = b1 at *
  have P2 := fun W => cut_any s1 (by omega) W
  have hl2 := cut_len s1
  generalize (cutR s1).1 = n at *
  generalize (cutR s1).2.1 = s2 at *
  generalize (cutR s1).2.2 = b2 at *
  have P3 := fun W => (Tryd.strings_CutPrefix ⟨s2.toArray⟩ ⟨#[34]⟩ W).mono (R' := fun e w' => e = .returned (.tuple #[.string ⟨(Lib.trimPrefix s2 [34]).toArray⟩, .bool (Lib.hasPrefix s2 [34])]) ∧ Below W.heap.size W w') (fun e w' ⟨x, y⟩ => ⟨x, by rw [y]; exact Below.refl _ _⟩)
  have hl3 := trim_len s2 [34]
  generalize Lib.trimPrefix s2 [34] = s3 at *
  generalize Lib.hasPrefix s2 [34] = b3 at *
  have P4 := fun W => takeE_any s3 (by omega) W
  generalize tE [] s3 = o at *
  have H1 := Lib.hid P1
  have H2 := Lib.hid P2
  have H3 := Lib.hid P3
  have H4 := Lib.hid P4
  clear P1 P2 P3 P4 hl1 hl2 hl3
  rcases o with _ | ⟨v, r⟩
  · simp only [tEV] at H4
    dsimp only [takeLV]
    cases b1 <;> cases b3
    · skip
      go_enter Tryd.func55, Tryd.ntmps55
      go_wp2_with fail
      refine (H1.out _).mono ?_
      rintro e w1 ⟨rfl, hb1⟩
      have DL : At w1 (w.heap.size) [.string ⟨#[]⟩, .string ⟨#[]⟩] := by have h := (At.new (w) #[.string ⟨#[]⟩, .string ⟨#[]⟩] 55).below hb1; simpa using h
      have B : Below w.heap.size w w1 := below_then (below_new (Below.refl _ _) (.cells #[.string ⟨#[]⟩, .string ⟨#[]⟩] 55)) hb1
      clear hb1
      have aL0 := DL.cell 0 _ rfl
      have zL0 := DL.free 0 _ rfl
      have aL1 := DL.cell 1 _ rfl
      have zL1 := DL.free 1 _ rfl
      have nL := DL.lt
      go_wp2_with fail
      refine (H2.out _).mono ?_
      rintro e w2 ⟨rfl, hb2⟩
      clear aL0 zL0 aL1 zL1 nL
      have DL := DL.below hb2
      have B : Below w.heap.size w w2 := below_then (B) hb2
      clear hb2
      have aL0 := DL.cell 0 _ rfl
      have zL0 := DL.free 0 _ rfl
      have aL1 := DL.cell 1 _ rfl
      have zL1 := DL.free 1 _ rfl
      have nL := DL.lt
      go_wp2_with fail
      refine (H3.out _).mono ?_
      rintro e w3 ⟨rfl, hb3⟩
      clear aL0 zL0 aL1 zL1 nL
      have DL := DL.below hb3
      have B : Below w.heap.size w w3 := below_then (B) hb3
      clear hb3
      have aL0 := DL.cell 0 _ rfl
      have zL0 := DL.free 0 _ rfl
      have aL1 := DL.cell 1 _ rfl
      have zL1 := DL.free 1 _ rfl
      have nL := DL.lt
      go_wp2_with fail
      refine (H4.out _).mono ?_
      rintro e w4 ⟨rfl, hb4⟩
      clear aL0 zL0 aL1 zL1 nL
      have DL := DL.below hb4
      have B : Below w.heap.size w w4 := below_then (B) hb4
      clear hb4
      have aL0 := DL.cell 0 _ rfl
      have zL0 := DL.free 0 _ rfl
      have aL1 := DL.cell 1 _ rfl
      have zL1 := DL.free 1 _ rfl
      have nL := DL.lt
      go_wp2
      refine bodyPost_ret (by simp [results, Tryd.results55, go_sem, aL0, aL1]; try rfl) rfl ?_
      exact ⟨rfl, by go_grown⟩
    · skip
      go_enter Tryd.func55, Tryd.ntmps55
      go_wp2_with fail
      refine (H1.out _).mono ?_
      rintro e w1 ⟨rfl, hb1⟩
      have DL : At w1 (w.heap.size) [.string ⟨#[]⟩, .string ⟨#[]⟩] := by have h := (At.new (w) #[.string ⟨#[]⟩, .string ⟨#[]⟩] 55).below hb1; simpa using h
      have B : Below w.heap.size w w1 := below_then (below_new (Below.refl _ _) (.cells #[.string ⟨#[]⟩, .string ⟨#[]⟩] 55)) hb1
      clear hb1
      have aL0 := DL.cell 0 _ rfl
      have zL0 := DL.free 0 _ rfl
      have aL1 := DL.cell 1 _ rfl
      have zL1 := DL.free 1 _ rfl
      have nL := DL.lt
      go_wp2_with fail
      refine (H2.out _).mono ?_
      rintro e w2 ⟨rfl, hb2⟩
      clear aL0 zL0 aL1 zL1 nL
      have DL := DL.below hb2
      have B : Below w.heap.size w w2 := below_then (B) hb2
      clear hb2
      have aL0 := DL.cell 0 _ rfl
      have zL0 := DL.free 0 _ rfl
      have aL1 := DL.cell 1 _ rfl
      have zL1 := DL.free 1 _ rfl
      have nL := DL.lt
      go_wp2_with fail
      refine (H3.out _).mono ?_
      rintro e w3 ⟨rfl, hb3⟩
      clear aL0 zL0 aL1 zL1 nL
      have DL := DL.below hb3
      have B : Below w.heap.size w w3 := below_then (B) hb3
      clear hb3
      have aL0 := DL.cell 0 _ rfl
      have zL0 := DL.free 0 _ rfl
      have aL1 := DL.cell 1 _ rfl
      have zL1 := DL.free 1 _ rfl
      have nL := DL.lt
      go_wp2_with fail
      refine (H4.out _).mono ?_
      rintro e w4 ⟨rfl, hb4⟩
      clear aL0 zL0 aL1 zL1 nL
      have DL := DL.below hb4
      have B : Below w.heap.size w w4 := below_then (B) hb4
      clear hb4
      have aL0 := DL.cell 0 _ rfl
      have zL0 := DL.free 0 _ rfl
      have aL1 := DL.cell 1 _ rfl
      have zL1 := DL.free 1 _ rfl
      have nL := DL.lt
      go_wp2
      refine bodyPost_ret (by simp [results, Tryd.results55, go_sem, aL0, aL1]; try rfl) rfl ?_
      exact ⟨rfl, by go_grown⟩
    · skip
      go_enter Tryd.func55, Tryd.ntmps55
      go_wp2_with fail
      refine (H1.out _).mono ?_
      rintro e w1 ⟨rfl, hb1⟩
      have DL : At w1 (w.heap.size) [.string ⟨#[]⟩, .string ⟨#[]⟩] := by have h := (At.new (w) #[.string ⟨#[]⟩, .string ⟨#[]⟩] 55).below hb1; simpa using h
      have B : Below w.heap.size w w1 := below_then (below_new (Below.refl _ _) (.cells #[.string ⟨#[]⟩, .string ⟨#[]⟩] 55)) hb1
      clear hb1
      have aL0 := DL.cell 0 _ rfl
      have zL0 := DL.free 0 _ rfl
      have aL1 := DL.cell 1 _ rfl
      have zL1 := DL.free 1 _ rfl
      have nL := DL.lt
      go_wp2_with fail
      refine (H2.out _).mono ?_
      rintro e w2 ⟨rfl, hb2⟩
      clear aL0 zL0 aL1 zL1 nL
      have DL := DL.below hb2
      have B : Below w.heap.size w w2 := below_then (B) hb2
      clear hb2
      have aL0 := DL.cell 0 _ rfl
      have zL0 := DL.free 0 _ rfl
      have aL1 := DL.cell 1 _ rfl
      have zL1 := DL.free 1 _ rfl
      have nL := DL.lt
      go_wp2_with fail
      refine (H3.out _).mono ?_
      rintro e w3 ⟨rfl, hb3⟩
      clear aL0 zL0 aL1 zL1 nL
      have DL := DL.below hb3
      have B : Below w.heap.size w w3 := below_then (B) hb3
      clear hb3
      have aL0 := DL.cell 0 _ rfl
      have zL0 := DL.free 0 _ rfl
      have aL1 := DL.cell 1 _ rfl
      have zL1 := DL.free 1 _ rfl
      have nL := DL.lt
      go_wp2_with fail
      refine (H4.out _).mono ?_
      rintro e w4 ⟨rfl, hb4⟩
      clear aL0 zL0 aL1 zL1 nL
      have DL := DL.below hb4
      have B : Below w.heap.size w w4 := below_then (B) hb4
      clear hb4
      have aL0 := DL.cell 0 _ rfl
      have zL0 := DL.free 0 _ rfl
      have aL1 := DL.cell 1 _ rfl
      have zL1 := DL.free 1 _ rfl
      have nL := DL.lt
      go_wp2
      refine bodyPost_ret (by simp [results, Tryd.results55, go_sem, aL0, aL1]; try rfl) rfl ?_
      exact ⟨rfl, by go_grown⟩
    · skip
      go_enter Tryd.func55, Tryd.ntmps55
      go_wp2_with fail
      refine (H1.out _).mono ?_
      rintro e w1 ⟨rfl, hb1⟩
      have DL : At w1 (w.heap.size) [.string ⟨#[]⟩, .string ⟨#[]⟩] := by have h := (At.new (w) #[.string ⟨#[]⟩, .string ⟨#[]⟩] 55).below hb1; simpa using h
      have B : Below w.heap.size w w1 := below_then (below_new (Below.refl _ _) (.cells #[.string ⟨#[]⟩, .string ⟨#[]⟩] 55)) hb1
      clear hb1
      have aL0 := DL.cell 0 _ rfl
      have zL0 := DL.free 0 _ rfl
      have aL1 := DL.cell 1 _ rfl
      have zL1 := DL.free 1 _ rfl
      have nL := DL.lt
      go_wp2_with fail
      refine (H2.out _).mono ?_
      rintro e w2 ⟨rfl, hb2⟩
      clear aL0 zL0 aL1 zL1 nL
      have DL := DL.below hb2
      have B : Below w.heap.size w w2 := below_then (B) hb2
      clear hb2
      have aL0 := DL.cell 0 _ rfl
      have zL0 := DL.free 0 _ rfl
      have aL1 := DL.cell 1 _ rfl
      have zL1 := DL.free 1 _ rfl
      have nL := DL.lt
      go_wp2_with fail
      refine (H3.out _).mono ?_
      rintro e w3 ⟨rfl, hb3⟩
      clear aL0 zL0 aL1 zL1 nL
      have DL := DL.below hb3
      have B : Below w.heap.size w w3 := below_then (B) hb3
      clear hb3
      have aL0 := DL.cell 0 _ rfl
      have zL0 := DL.free 0 _ rfl
      have aL1 := DL.cell 1 _ rfl
      have zL1 := DL.free 1 _ rfl
      have nL := DL.lt
      go_wp2_with fail
      refine (H4.out _).mono ?_
      rintro e w4 ⟨rfl, hb4⟩
      clear aL0 zL0 aL1 zL1 nL
      have DL := DL.below hb4
      have B : Below w.heap.size w w4 := below_then (B) hb4
      clear hb4
      have aL0 := DL.cell 0 _ rfl
      have zL0 := DL.free 0 _ rfl
      have aL1 := DL.cell 1 _ rfl
      have zL1 := DL.free 1 _ rfl
      have nL := DL.lt
      go_wp2
      refine bodyPost_ret (by simp [results, Tryd.results55, go_sem, aL0, aL1]; try rfl) rfl ?_
      exact ⟨rfl, by go_grown⟩
  · simp only [tEV] at H4
    dsimp only
    cases b1 <;> cases b3
    · rw [if_neg (by simp)]
      dsimp only [takeLV]
      go_enter Tryd.func55, Tryd.ntmps55
      go_wp2_with fail
      refine (H1.out _).mono ?_
      rintro e w1 ⟨rfl, hb1⟩
      have DL : At w1 (w.heap.size) [.string ⟨#[]⟩, .string ⟨#[]⟩] := by have h := (At.new (w) #[.string ⟨#[]⟩, .string ⟨#[]⟩] 55).below hb1; simpa using h
      have B : Below w.heap.size w w1 := below_then (below_new (Below.refl _ _) (.cells #[.string ⟨#[]⟩, .string ⟨#[]⟩] 55)) hb1
      clear hb1
      have aL0 := DL.cell 0 _ rfl
      have zL0 := DL.free 0 _ rfl
      have aL1 := DL.cell 1 _ rfl
      have zL1 := DL.free 1 _ rfl
      have nL := DL.lt
      go_wp2_with fail
      refine (H2.out _).mono ?_
      rintro e w2 ⟨rfl, hb2⟩
      clear aL0 zL0 aL1 zL1 nL
      have DL := DL.below hb2
      have B : Below w.heap.size w w2 := below_then (B) hb2
      clear hb2
      have aL0 := DL.cell 0 _ rfl
      have zL0 := DL.free 0 _ rfl
      have aL1 := DL.cell 1 _ rfl
      have zL1 := DL.free 1 _ rfl
      have nL := DL.lt
      go_wp2_with fail
      refine (H3.out _).mono ?_
      rintro e w3 ⟨rfl, hb3⟩
      clear aL0 zL0 aL1 zL1 nL
      have DL := DL.below hb3
      have B : Below w.heap.size w w3 := below_then (B) hb3
      clear hb3
      have aL0 := DL.cell 0 _ rfl
      have zL0 := DL.free 0 _ rfl
      have aL1 := DL.cell 1 _ rfl
      have zL1 := DL.free 1 _ rfl
      have nL := DL.lt
      go_wp2_with fail
      refine (H4.out _).mono ?_
      rintro e w4 ⟨rfl, hb4⟩
      clear aL0 zL0 aL1 zL1 nL
      have DL := DL.below hb4
      have B : Below w.heap.size w w4 := below_then (B) hb4
      clear hb4
      have aL0 := DL.cell 0 _ rfl
      have zL0 := DL.free 0 _ rfl
      have aL1 := DL.cell 1 _ rfl
      have zL1 := DL.free 1 _ rfl
      have nL := DL.lt
      go_wp2
      refine bodyPost_ret (by simp [results, Tryd.results55, go_sem, aL0, aL1]; try rfl) rfl ?_
      exact ⟨rfl, by go_grown⟩
    · rw [if_neg (by simp)]
      dsimp only [takeLV]
      go_enter Tryd.func55, Tryd.ntmps55
      go_wp2_with fail
      refine (H1.out _).mono ?_
      rintro e w1 ⟨rfl, hb1⟩
      have DL : At w1 (w.heap.size) [.string ⟨#[]⟩, .string ⟨#[]⟩] := by have h := (At.new (w) #[.string ⟨#[]⟩, .string ⟨#[]⟩] 55).below hb1; simpa using h
      have B : Below w.heap.size w w1 := below_then (below_new (Below.refl _ _) (.cells #[.string ⟨#[]⟩, .string ⟨#[]⟩] 55)) hb1
      clear hb1
      have aL0 := DL.cell 0 _ rfl
      have zL0 := DL.free 0 _ rfl
      have aL1 := DL.cell 1 _ rfl
      have zL1 := DL.free 1 _ rfl
      have nL := DL.lt
      go_wp2_with fail
      refine (H2.out _).mono ?_
      rintro e w2 ⟨rfl, hb2⟩
      clear aL0 zL0 aL1 zL1 nL
      have DL := DL.below hb2
      have B : Below w.heap.size w w2 := below_then (B) hb2
      clear hb2
      have aL0 := DL.cell 0 _ rfl
      have zL0 := DL.free 0 _ rfl
      have aL1 := DL.cell 1 _ rfl
      have zL1 := DL.free 1 _ rfl
      have nL := DL.lt
      go_wp2_with fail
      refine (H3.out _).mono ?_
      rintro e w3 ⟨rfl, hb3⟩
      clear aL0 zL0 aL1 zL1 nL
      have DL := DL.below hb3
      have B : Below w.heap.size w w3 := below_then (B) hb3
      clear hb3
      have aL0 := DL.cell 0 _ rfl
      have zL0 := DL.free 0 _ rfl
      have aL1 := DL.cell 1 _ rfl
      have zL1 := DL.free 1 _ rfl
      have nL := DL.lt
      go_wp2_with fail
      refine (H4.out _).mono ?_
      rintro e w4 ⟨rfl, hb4⟩
      clear aL0 zL0 aL1 zL1 nL
      have DL := DL.below hb4
      have B : Below w.heap.size w w4 := below_then (B) hb4
      clear hb4
      have aL0 := DL.cell 0 _ rfl
      have zL0 := DL.free 0 _ rfl
      have aL1 := DL.cell 1 _ rfl
      have zL1 := DL.free 1 _ rfl
      have nL := DL.lt
      go_wp2
      refine bodyPost_ret (by simp [results, Tryd.results55, go_sem, aL0, aL1]; try rfl) rfl ?_
      exact ⟨rfl, by go_grown⟩
    · rw [if_neg (by simp)]
      dsimp only [takeLV]
      go_enter Tryd.func55, Tryd.ntmps55
      go_wp2_with fail
      refine (H1.out _).mono ?_
      rintro e w1 ⟨rfl, hb1⟩
      have DL : At w1 (w.heap.size) [.string ⟨#[]⟩, .string ⟨#[]⟩] := by have h := (At.new (w) #[.string ⟨#[]⟩, .string ⟨#[]⟩] 55).below hb1; simpa using h
      have B : Below w.heap.size w w1 := below_then (below_new (Below.refl _ _) (.cells #[.string ⟨#[]⟩, .string ⟨#[]⟩] 55)) hb1
      clear hb1
      have aL0 := DL.cell 0 _ rfl
      have zL0 := DL.free 0 _ rfl
      have aL1 := DL.cell 1 _ rfl
      have zL1 := DL.free 1 _ rfl
      have nL := DL.lt
      go_wp2_with fail
      refine (H2.out _).mono ?_
      rintro e w2 ⟨rfl, hb2⟩
      clear aL0 zL0 aL1 zL1 nL
      have DL := DL.below hb2
      have B : Below w.heap.size w w2 := below_then (B) hb2
      clear hb2
      have aL0 := DL.cell 0 _ rfl
      have zL0 := DL.free 0 _ rfl
      have aL1 := DL.cell 1 _ rfl
      have zL1 := DL.free 1 _ rfl
      have nL := DL.lt
      go_wp2_with fail
      refine (H3.out _).mono ?_
      rintro e w3 ⟨rfl, hb3⟩
      clear aL0 zL0 aL1 zL1 nL
      have DL := DL.below hb3
      have B : Below w.heap.size w w3 := below_then (B) hb3
      clear hb3
      have aL0 := DL.cell 0 _ rfl
      have zL0 := DL.free 0 _ rfl
      have aL1 := DL.cell 1 _ rfl
      have zL1 := DL.free 1 _ rfl
      have nL := DL.lt
      go_wp2_with fail
      refine (H4.out _).mono ?_
      rintro e w4 ⟨rfl, hb4⟩
      clear aL0 zL0 aL1 zL1 nL
      have DL := DL.below hb4
      have B : Below w.heap.size w w4 := below_then (B) hb4
      clear hb4
      have aL0 := DL.cell 0 _ rfl
      have zL0 := DL.free 0 _ rfl
      have aL1 := DL.cell 1 _ rfl
      have zL1 := DL.free 1 _ rfl
      have nL := DL.lt
      go_wp2
      refine bodyPost_ret (by simp [results, Tryd.results55, go_sem, aL0, aL1]; try rfl) rfl ?_
      exact ⟨rfl, by go_grown⟩
    · rw [if_pos (by simp)]
      dsimp only [takeLV]
      go_enter Tryd.func55, Tryd.ntmps55
      go_wp2_with fail
      refine (H1.out _).mono ?_
      rintro e w1 ⟨rfl, hb1⟩
      have DL : At w1 (w.heap.size) [.string ⟨#[]⟩, .string ⟨#[]⟩] := by have h := (At.new (w) #[.string ⟨#[]⟩, .string ⟨#[]⟩] 55).below hb1; simpa using h
      have B : Below w.heap.size w w1 := below_then (below_new (Below.refl _ _) (.cells #[.string ⟨#[]⟩, .string ⟨#[]⟩] 55)) hb1
      clear hb1
      have aL0 := DL.cell 0 _ rfl
      have zL0 := DL.free 0 _ rfl
      have aL1 := DL.cell 1 _ rfl
      have zL1 := DL.free 1 _ rfl
      have nL := DL.lt
      go_wp2_with fail
      refine (H2.out _).mono ?_
      rintro e w2 ⟨rfl, hb2⟩
      clear aL0 zL0 aL1 zL1 nL
      have DL := DL.below hb2
      have B : Below w.heap.size w w2 := below_then (B) hb2
      clear hb2
      have aL0 := DL.cell 0 _ rfl
      have zL0 := DL.free 0 _ rfl
      have aL1 := DL.cell 1 _ rfl
      have zL1 := DL.free 1 _ rfl
      have nL := DL.lt
      go_wp2_with fail
      refine (H3.out _).mono ?_
      rintro e w3 ⟨rfl, hb3⟩
      clear aL0 zL0 aL1 zL1 nL
      have DL := DL.below hb3
      have B : Below w.heap.size w w3 := below_then (B) hb3
      clear hb3
      have aL0 := DL.cell 0 _ rfl
      have zL0 := DL.free 0 _ rfl
      have aL1 := DL.cell 1 _ rfl
      have zL1 := DL.free 1 _ rfl
      have nL := DL.lt
      go_wp2_with fail
      refine (H4.out _).mono ?_
      rintro e w4 ⟨rfl, hb4⟩
      clear aL0 zL0 aL1 zL1 nL
      have DL := DL.below hb4
      have B : Below w.heap.size w w4 := below_then (B) hb4
      clear hb4
      have aL0 := DL.cell 0 _ rfl
      have zL0 := DL.free 0 _ rfl
      have aL1 := DL.cell 1 _ rfl
      have zL1 := DL.free 1 _ rfl
      have nL := DL.lt
      go_wp2
      refine bodyPost_ret (by simp [results, Tryd.results55, go_sem, aL0, aL1]; try rfl) rfl ?_
      exact ⟨rfl, by go_grown⟩
end Go.Proofs.YtggipcihigddkaaDoor
