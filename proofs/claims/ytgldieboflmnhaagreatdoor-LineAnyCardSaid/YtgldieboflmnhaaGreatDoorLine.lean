/- line.numbersOf, span.Check, line.check, line.Check. -/
import Derived.Test.YtgldieboflmnhaaGreatDoorCheck
import Derived.Test.YtgldieboflmnhaaGreatDoorParse
import Derived.Test.YtgldieboflmnhaaGreatDoorOrd6
namespace Go.Proofs.YtgldieboflmnhaaGreatDoor
open Go Go.Proofs Go.RowKit Go.Shelf
set_option maxRecDepth 100000
attribute [local go_sem] Oper.semAt_some
def sampV (sl : Value) (va tm sr sq : Int) : Value := .agg #[sl, .int .i64 va, .int .i64 tm, .int .i64 sr, .int .i64 sq]
def numV (va tm sr sq : Int) : Value := .agg #[.int .i64 va, .int .i64 tm, .int .i64 sr, .int .i64 sq]
theorem labs_on {w w1 : World} {v : Value} {zs : List SLab} (h : Labs w.heap.size w v zs) (hb : Below w.heap.size w w1) : Labs w1.heap.size w1 v zs := by
  rcases h.below hb with e | ⟨b, off, cap, e, h1, h2⟩
  · exact .inl e
  · exact .inr ⟨b, off, cap, e, Nat.lt_of_lt_of_le h1 hb.size, h2⟩
theorem numbersOf_any (sl : Value) (va tm sr sq : Int) (w : World) : Calls Tryz.prog 20 #[sampV sl va tm sr sq] w fun e w' => e = .returned (numV va tm sr sq) ∧ Below w.heap.size w w' := by
  unfold sampV numV
  go_enter Tryz.func20, Tryz.ntmps20
  go_wp2
  refine bodyPost_ret (by simp [results, Tryz.results20, go_sem]; try rfl) rfl ?_
  exact ⟨rfl, by go_grown⟩
/-- what is said of a time -/
def timeR (t : Int) : Int := if t < 0 ∨ 4398046511104 < t then 1 else 0
theorem spanCheck_any (t : Int) (w : World) : Calls Tryz.prog 36 #[.int .i64 t] w fun e w' => e = .returned (.int .i64 (timeR t)) ∧ w = w' := by
  by_cases h1 : t < 0
  · have R : Hid (timeR t = 1) := by unfold Hid timeR; rw [if_pos (.inl h1)]
    go_enter Tryz.func36, Tryz.ntmps36
    go_wp2
    go_ret
    exact ⟨by rw [R.out]; rfl, rfl⟩
  · by_cases h2 : 4398046511104 < t
    · have R : Hid (timeR t = 1) := by unfold Hid timeR; rw [if_pos (.inr h2)]
      go_enter Tryz.func36, Tryz.ntmps36
      go_wp2
      go_ret
      exact ⟨by rw [R.out]; rfl, rfl⟩
    · have R : Hid (timeR t = 0) := by unfold Hid timeR; rw [if_neg (by omega)]
      go_enter Tryz.func36, Tryz.ntmps36
      go_wp2
      go_ret
      exact ⟨by rw [R.out]; rfl, rfl⟩
/-- what is said of a sample -/
def sampR (zs : List SLab) (tm sr sq : Int) : Int := if checkR zs ≠ 0 then checkR zs else if zs.length = 0 then 5 else if timeR tm ≠ 0 then timeR tm else if sr < 1 ∨ 16 < sr ∨ sq < 1 ∨ 9007199254740992 < sq then 1 else 0
set_option maxHeartbeats 2000000 in
theorem check_bad (a : Option Addr) (n cap : Nat) (zs : List SLab) (hreach : zs.length ≤ 100) (va tm sr sq : Int) (w : World) (hI : Labs w.heap.size w (.slice a n cap) zs) (hc : checkR zs ≠ 0) :
    Calls Tryz.prog 19 #[.slice a n cap, numV va tm sr sq] w fun e w' => e = .returned (.int .i64 (sampR zs tm sr sq)) ∧ Below w.heap.size w w' := by
  obtain rfl : n = zs.length := hI.len
  have C := Lib.hid (fun W (hb : Below w.heap.size w W) => check_any a zs.length cap zs hreach W (labs_on hI hb))
  have T := Lib.hid (fun W => spanCheck_any tm W)
  have R : Hid (sampR zs tm sr sq = checkR zs) := by unfold Hid sampR; rw [if_pos hc]
  have c0 : (checkR zs != 0) = true := by simpa using hc
  unfold numV
  clear hI
  go_enter Tryz.func19, Tryz.ntmps19
  go_wp2_with fail
  refine (C.out _ (below_new (Below.refl _ _) _)).mono ?_
  rintro e w1 ⟨rfl, hb1⟩
  have DN : At w1 (w.heap.size) [.int .i64 va, .int .i64 tm, .int .i64 sr, .int .i64 sq] := by have h := (At.new (w) #[.int .i64 va, .int .i64 tm, .int .i64 sr, .int .i64 sq] 51).below hb1; simpa using h
  have B : Below w.heap.size w w1 := below_then (below_new (Below.refl _ _) (.cells #[.int .i64 va, .int .i64 tm, .int .i64 sr, .int .i64 sq] 51)) hb1
  clear hb1
  have aN0 := DN.cell 0 _ rfl
  have aN1 := DN.cell 1 _ rfl
  have aN2 := DN.cell 2 _ rfl
  have aN3 := DN.cell 3 _ rfl
  have nN := DN.lt
  go_wp2
  go_ret
  exact ⟨by rw [R.out]; rfl, B⟩
set_option maxHeartbeats 2000000 in
theorem check_none (a : Option Addr) (n cap : Nat) (zs : List SLab) (hreach : zs.length ≤ 100) (va tm sr sq : Int) (w : World) (hI : Labs w.heap.size w (.slice a n cap) zs) (hc : checkR zs = 0) (hz : zs.length = 0) :
    Calls Tryz.prog 19 #[.slice a n cap, numV va tm sr sq] w fun e w' => e = .returned (.int .i64 (sampR zs tm sr sq)) ∧ Below w.heap.size w w' := by
  obtain rfl : n = zs.length := hI.len
  have C := Lib.hid (fun W (hb : Below w.heap.size w W) => check_any a zs.length cap zs hreach W (labs_on hI hb))
  have T := Lib.hid (fun W => spanCheck_any tm W)
  have R : Hid (sampR zs tm sr sq = 5) := by unfold Hid sampR; rw [if_neg (by rw [hc]; simp), if_pos hz]
  have c0 : checkR zs = 0 := hc
  rw [c0] at C
  obtain rfl := List.eq_nil_of_length_eq_zero hz
  clear hz
  simp only [List.length_nil] at *
  unfold numV
  clear hI
  go_enter Tryz.func19, Tryz.ntmps19
  go_wp2_with fail
  refine (C.out _ (below_new (Below.refl _ _) _)).mono ?_
  rintro e w1 ⟨rfl, hb1⟩
  have DN : At w1 (w.heap.size) [.int .i64 va, .int .i64 tm, .int .i64 sr, .int .i64 sq] := by have h := (At.new (w) #[.int .i64 va, .int .i64 tm, .int .i64 sr, .int .i64 sq] 51).below hb1; simpa using h
  have B : Below w.heap.size w w1 := below_then (below_new (Below.refl _ _) (.cells #[.int .i64 va, .int .i64 tm, .int .i64 sr, .int .i64 sq] 51)) hb1
  clear hb1
  have aN0 := DN.cell 0 _ rfl
  have aN1 := DN.cell 1 _ rfl
  have aN2 := DN.cell 2 _ rfl
  have aN3 := DN.cell 3 _ rfl
  have nN := DN.lt
  go_wp2
  go_ret
  exact ⟨by rw [R.out]; rfl, B⟩
set_option maxHeartbeats 2000000 in
theorem check_late (a : Option Addr) (n cap : Nat) (zs : List SLab) (hreach : zs.length ≤ 100) (va tm sr sq : Int) (w : World) (hI : Labs w.heap.size w (.slice a n cap) zs) (hc : checkR zs = 0) (hz : zs.length ≠ 0) (ht : timeR tm ≠ 0) :
    Calls Tryz.prog 19 #[.slice a n cap, numV va tm sr sq] w fun e w' => e = .returned (.int .i64 (sampR zs tm sr sq)) ∧ Below w.heap.size w w' := by
  obtain rfl : n = zs.length := hI.len
  have C := Lib.hid (fun W (hb : Below w.heap.size w W) => check_any a zs.length cap zs hreach W (labs_on hI hb))
  have T := Lib.hid (fun W => spanCheck_any tm W)
  have R : Hid (sampR zs tm sr sq = timeR tm) := by unfold Hid sampR; rw [if_neg (by rw [hc]; simp), if_neg hz, if_pos ht]
  have c0 : checkR zs = 0 := hc
  rw [c0] at C
  have z0 : ((zs.length : Int) == 0) = false := by rw [beq_eq_false_iff_ne]; omega
  have t0 : (timeR tm != 0) = true := by simpa using ht
  unfold numV
  clear hI
  go_enter Tryz.func19, Tryz.ntmps19
  go_wp2_with fail
  refine (C.out _ (below_new (Below.refl _ _) _)).mono ?_
  rintro e w1 ⟨rfl, hb1⟩
  have DN : At w1 (w.heap.size) [.int .i64 va, .int .i64 tm, .int .i64 sr, .int .i64 sq] := by have h := (At.new (w) #[.int .i64 va, .int .i64 tm, .int .i64 sr, .int .i64 sq] 51).below hb1; simpa using h
  have B : Below w.heap.size w w1 := below_then (below_new (Below.refl _ _) (.cells #[.int .i64 va, .int .i64 tm, .int .i64 sr, .int .i64 sq] 51)) hb1
  clear hb1
  have aN0 := DN.cell 0 _ rfl
  have aN1 := DN.cell 1 _ rfl
  have aN2 := DN.cell 2 _ rfl
  have aN3 := DN.cell 3 _ rfl
  have nN := DN.lt
  go_wp2_with fail
  refine (T.out _).mono ?_
  rintro e w2 ⟨rfl, rfl⟩
  go_wp2
  go_ret
  exact ⟨by rw [R.out]; rfl, B⟩
set_option maxHeartbeats 2000000 in
theorem check_src0 (a : Option Addr) (n cap : Nat) (zs : List SLab) (hreach : zs.length ≤ 100) (va tm sr sq : Int) (w : World) (hI : Labs w.heap.size w (.slice a n cap) zs) (hc : checkR zs = 0) (hz : zs.length ≠ 0) (ht : timeR tm = 0) (h1 : sr < 1) :
    Calls Tryz.prog 19 #[.slice a n cap, numV va tm sr sq] w fun e w' => e = .returned (.int .i64 (sampR zs tm sr sq)) ∧ Below w.heap.size w w' := by
  obtain rfl : n = zs.length := hI.len
  have C := Lib.hid (fun W (hb : Below w.heap.size w W) => check_any a zs.length cap zs hreach W (labs_on hI hb))
  have T := Lib.hid (fun W => spanCheck_any tm W)
  have R : Hid (sampR zs tm sr sq = 1) := by unfold Hid sampR; rw [if_neg (by rw [hc]; simp), if_neg hz, if_neg (by rw [ht]; simp), if_pos (by omega)]
  have c0 : checkR zs = 0 := hc
  rw [c0] at C
  have z0 : ((zs.length : Int) == 0) = false := by rw [beq_eq_false_iff_ne]; omega
  rw [ht] at T
  unfold numV
  clear hI
  go_enter Tryz.func19, Tryz.ntmps19
  go_wp2_with fail
  refine (C.out _ (below_new (Below.refl _ _) _)).mono ?_
  rintro e w1 ⟨rfl, hb1⟩
  have DN : At w1 (w.heap.size) [.int .i64 va, .int .i64 tm, .int .i64 sr, .int .i64 sq] := by have h := (At.new (w) #[.int .i64 va, .int .i64 tm, .int .i64 sr, .int .i64 sq] 51).below hb1; simpa using h
  have B : Below w.heap.size w w1 := below_then (below_new (Below.refl _ _) (.cells #[.int .i64 va, .int .i64 tm, .int .i64 sr, .int .i64 sq] 51)) hb1
  clear hb1
  have aN0 := DN.cell 0 _ rfl
  have aN1 := DN.cell 1 _ rfl
  have aN2 := DN.cell 2 _ rfl
  have aN3 := DN.cell 3 _ rfl
  have nN := DN.lt
  go_wp2_with fail
  refine (T.out _).mono ?_
  rintro e w2 ⟨rfl, rfl⟩
  go_wp2
  go_ret
  exact ⟨by rw [R.out]; rfl, B⟩
set_option maxHeartbeats 2000000 in
theorem check_src1 (a : Option Addr) (n cap : Nat) (zs : List SLab) (hreach : zs.length ≤ 100) (va tm sr sq : Int) (w : World) (hI : Labs w.heap.size w (.slice a n cap) zs) (hc : checkR zs = 0) (hz : zs.length ≠ 0) (ht : timeR tm = 0) (h1 : ¬ sr < 1) (h2 : 16 < sr) :
    Calls Tryz.prog 19 #[.slice a n cap, numV va tm sr sq] w fun e w' => e = .returned (.int .i64 (sampR zs tm sr sq)) ∧ Below w.heap.size w w' := by
  obtain rfl : n = zs.length := hI.len
  have C := Lib.hid (fun W (hb : Below w.heap.size w W) => check_any a zs.length cap zs hreach W (labs_on hI hb))
  have T := Lib.hid (fun W => spanCheck_any tm W)
  have R : Hid (sampR zs tm sr sq = 1) := by unfold Hid sampR; rw [if_neg (by rw [hc]; simp), if_neg hz, if_neg (by rw [ht]; simp), if_pos (by omega)]
  have c0 : checkR zs = 0 := hc
  rw [c0] at C
  have z0 : ((zs.length : Int) == 0) = false := by rw [beq_eq_false_iff_ne]; omega
  rw [ht] at T
  unfold numV
  clear hI
  go_enter Tryz.func19, Tryz.ntmps19
  go_wp2_with fail
  refine (C.out _ (below_new (Below.refl _ _) _)).mono ?_
  rintro e w1 ⟨rfl, hb1⟩
  have DN : At w1 (w.heap.size) [.int .i64 va, .int .i64 tm, .int .i64 sr, .int .i64 sq] := by have h := (At.new (w) #[.int .i64 va, .int .i64 tm, .int .i64 sr, .int .i64 sq] 51).below hb1; simpa using h
  have B : Below w.heap.size w w1 := below_then (below_new (Below.refl _ _) (.cells #[.int .i64 va, .int .i64 tm, .int .i64 sr, .int .i64 sq] 51)) hb1
  clear hb1
  have aN0 := DN.cell 0 _ rfl
  have aN1 := DN.cell 1 _ rfl
  have aN2 := DN.cell 2 _ rfl
  have aN3 := DN.cell 3 _ rfl
  have nN := DN.lt
  go_wp2_with fail
  refine (T.out _).mono ?_
  rintro e w2 ⟨rfl, rfl⟩
  go_wp2
  go_ret
  exact ⟨by rw [R.out]; rfl, B⟩
set_option maxHeartbeats 2000000 in
theorem check_seq0 (a : Option Addr) (n cap : Nat) (zs : List SLab) (hreach : zs.length ≤ 100) (va tm sr sq : Int) (w : World) (hI : Labs w.heap.size w (.slice a n cap) zs) (hc : checkR zs = 0) (hz : zs.length ≠ 0) (ht : timeR tm = 0) (h1 : ¬ sr < 1) (h2 : ¬ 16 < sr) (h3 : sq < 1) :
    Calls Tryz.prog 19 #[.slice a n cap, numV va tm sr sq] w fun e w' => e = .returned (.int .i64 (sampR zs tm sr sq)) ∧ Below w.heap.size w w' := by
  obtain rfl : n = zs.length := hI.len
  have C := Lib.hid (fun W (hb : Below w.heap.size w W) => check_any a zs.length cap zs hreach W (labs_on hI hb))
  have T := Lib.hid (fun W => spanCheck_any tm W)
  have R : Hid (sampR zs tm sr sq = 1) := by unfold Hid sampR; rw [if_neg (by rw [hc]; simp), if_neg hz, if_neg (by rw [ht]; simp), if_pos (by omega)]
  have c0 : checkR zs = 0 := hc
  rw [c0] at C
  have z0 : ((zs.length : Int) == 0) = false := by rw [beq_eq_false_iff_ne]; omega
  rw [ht] at T
  unfold numV
  clear hI
  go_enter Tryz.func19, Tryz.ntmps19
  go_wp2_with fail
  refine (C.out _ (below_new (Below.refl _ _) _)).mono ?_
  rintro e w1 ⟨rfl, hb1⟩
  have DN : At w1 (w.heap.size) [.int .i64 va, .int .i64 tm, .int .i64 sr, .int .i64 sq] := by have h := (At.new (w) #[.int .i64 va, .int .i64 tm, .int .i64 sr, .int .i64 sq] 51).below hb1; simpa using h
  have B : Below w.heap.size w w1 := below_then (below_new (Below.refl _ _) (.cells #[.int .i64 va, .int .i64 tm, .int .i64 sr, .int .i64 sq] 51)) hb1
  clear hb1
  have aN0 := DN.cell 0 _ rfl
  have aN1 := DN.cell 1 _ rfl
  have aN2 := DN.cell 2 _ rfl
  have aN3 := DN.cell 3 _ rfl
  have nN := DN.lt
  go_wp2_with fail
  refine (T.out _).mono ?_
  rintro e w2 ⟨rfl, rfl⟩
  go_wp2
  go_ret
  exact ⟨by rw [R.out]; rfl, B⟩
set_option maxHeartbeats 2000000 in
theorem check_seq1 (a : Option Addr) (n cap : Nat) (zs : List SLab) (hreach : zs.length ≤ 100) (va tm sr sq : Int) (w : World) (hI : Labs w.heap.size w (.slice a n cap) zs) (hc : checkR zs = 0) (hz : zs.length ≠ 0) (ht : timeR tm = 0) (h1 : ¬ sr < 1) (h2 : ¬ 16 < sr) (h3 : ¬ sq < 1) (h4 : 9007199254740992 < sq) :
    Calls Tryz.prog 19 #[.slice a n cap, numV va tm sr sq] w fun e w' => e = .returned (.int .i64 (sampR zs tm sr sq)) ∧ Below w.heap.size w w' := by
  obtain rfl : n = zs.length := hI.len
  have C := Lib.hid (fun W (hb : Below w.heap.size w W) => check_any a zs.length cap zs hreach W (labs_on hI hb))
  have T := Lib.hid (fun W => spanCheck_any tm W)
  have R : Hid (sampR zs tm sr sq = 1) := by unfold Hid sampR; rw [if_neg (by rw [hc]; simp), if_neg hz, if_neg (by rw [ht]; simp), if_pos (by omega)]
  have c0 : checkR zs = 0 := hc
  rw [c0] at C
  have z0 : ((zs.length : Int) == 0) = false := by rw [beq_eq_false_iff_ne]; omega
  rw [ht] at T
  unfold numV
  clear hI
  go_enter Tryz.func19, Tryz.ntmps19
  go_wp2_with fail
  refine (C.out _ (below_new (Below.refl _ _) _)).mono ?_
  rintro e w1 ⟨rfl, hb1⟩
  have DN : At w1 (w.heap.size) [.int .i64 va, .int .i64 tm, .int .i64 sr, .int .i64 sq] := by have h := (At.new (w) #[.int .i64 va, .int .i64 tm, .int .i64 sr, .int .i64 sq] 51).below hb1; simpa using h
  have B : Below w.heap.size w w1 := below_then (below_new (Below.refl _ _) (.cells #[.int .i64 va, .int .i64 tm, .int .i64 sr, .int .i64 sq] 51)) hb1
  clear hb1
  have aN0 := DN.cell 0 _ rfl
  have aN1 := DN.cell 1 _ rfl
  have aN2 := DN.cell 2 _ rfl
  have aN3 := DN.cell 3 _ rfl
  have nN := DN.lt
  go_wp2_with fail
  refine (T.out _).mono ?_
  rintro e w2 ⟨rfl, rfl⟩
  go_wp2
  go_ret
  exact ⟨by rw [R.out]; rfl, B⟩
set_option maxHeartbeats 2000000 in
theorem check_good (a : Option Addr) (n cap : Nat) (zs : List SLab) (hreach : zs.length ≤ 100) (va tm sr sq : Int) (w : World) (hI : Labs w.heap.size w (.slice a n cap) zs) (hc : checkR zs = 0) (hz : zs.length ≠ 0) (ht : timeR tm = 0) (h1 : ¬ sr < 1) (h2 : ¬ 16 < sr) (h3 : ¬ sq < 1) (h4 : ¬ 9007199254740992 < sq) :
    Calls Tryz.prog 19 #[.slice a n cap, numV va tm sr sq] w fun e w' => e = .returned (.int .i64 (sampR zs tm sr sq)) ∧ Below w.heap.size w w' := by
  obtain rfl : n = zs.length := hI.len
  have C := Lib.hid (fun W (hb : Below w.heap.size w W) => check_any a zs.length cap zs hreach W (labs_on hI hb))
  have T := Lib.hid (fun W => spanCheck_any tm W)
  have R : Hid (sampR zs tm sr sq = 0) := by unfold Hid sampR; rw [if_neg (by rw [hc]; simp), if_neg hz, if_neg (by rw [ht]; simp), if_neg (by omega)]
  have c0 : checkR zs = 0 := hc
  rw [c0] at C
  have z0 : ((zs.length : Int) == 0) = false := by rw [beq_eq_false_iff_ne]; omega
  rw [ht] at T
  unfold numV
  clear hI
  go_enter Tryz.func19, Tryz.ntmps19
  go_wp2_with fail
  refine (C.out _ (below_new (Below.refl _ _) _)).mono ?_
  rintro e w1 ⟨rfl, hb1⟩
  have DN : At w1 (w.heap.size) [.int .i64 va, .int .i64 tm, .int .i64 sr, .int .i64 sq] := by have h := (At.new (w) #[.int .i64 va, .int .i64 tm, .int .i64 sr, .int .i64 sq] 51).below hb1; simpa using h
  have B : Below w.heap.size w w1 := below_then (below_new (Below.refl _ _) (.cells #[.int .i64 va, .int .i64 tm, .int .i64 sr, .int .i64 sq] 51)) hb1
  clear hb1
  have aN0 := DN.cell 0 _ rfl
  have aN1 := DN.cell 1 _ rfl
  have aN2 := DN.cell 2 _ rfl
  have aN3 := DN.cell 3 _ rfl
  have nN := DN.lt
  go_wp2_with fail
  refine (T.out _).mono ?_
  rintro e w2 ⟨rfl, rfl⟩
  go_wp2
  go_ret
  exact ⟨by rw [R.out]; rfl, B⟩
theorem samp_any (a : Option Addr) (n cap : Nat) (zs : List SLab) (hreach : zs.length ≤ 100) (va tm sr sq : Int) (w : World) (hI : Labs w.heap.size w (.slice a n cap) zs) :
    Calls Tryz.prog 19 #[.slice a n cap, numV va tm sr sq] w fun e w' => e = .returned (.int .i64 (sampR zs tm sr sq)) ∧ Below w.heap.size w w' := by
  by_cases hc : checkR zs = 0
  · by_cases hz : zs.length = 0
    · exact check_none a n cap zs hreach va tm sr sq w hI hc hz
    · by_cases ht : timeR tm = 0
      · by_cases h1 : sr < 1
        · exact check_src0 a n cap zs hreach va tm sr sq w hI hc hz ht h1
        · by_cases h2 : 16 < sr
          · exact check_src1 a n cap zs hreach va tm sr sq w hI hc hz ht h1 h2
          · by_cases h3 : sq < 1
            · exact check_seq0 a n cap zs hreach va tm sr sq w hI hc hz ht h1 h2 h3
            · by_cases h4 : 9007199254740992 < sq
              · exact check_seq1 a n cap zs hreach va tm sr sq w hI hc hz ht h1 h2 h3 h4
              · exact check_good a n cap zs hreach va tm sr sq w hI hc hz ht h1 h2 h3 h4
      · exact check_late a n cap zs hreach va tm sr sq w hI hc hz ht
  · exact check_bad a n cap zs hreach va tm sr sq w hI hc
set_option maxHeartbeats 4000000 in
theorem lcheck_any (a : Option Addr) (n cap : Nat) (zs : List SLab) (hreach : zs.length ≤ 100) (va tm sr sq : Int) (w : World) (hI : Labs w.heap.size w (.slice a n cap) zs) :
    Calls Tryz.prog 10 #[sampV (.slice a n cap) va tm sr sq] w fun e w' => e = .returned (.int .i64 (sampR zs tm sr sq)) ∧ Below w.heap.size w w' := by
  obtain rfl : n = zs.length := hI.len
  have NO := Lib.hid (fun W => numbersOf_any (.slice a zs.length cap) va tm sr sq W)
  have C := Lib.hid (fun W (hb : Below w.heap.size w W) => samp_any a zs.length cap zs hreach va tm sr sq W (labs_on hI hb))
  unfold numV sampV at *
  go_enter Tryz.func10, Tryz.ntmps10
  have DP : At ((w).alloc (.cells #[.slice a zs.length cap, .int .i64 va, .int .i64 tm, .int .i64 sr, .int .i64 sq] 25)) (w.heap.size) [.slice a zs.length cap, .int .i64 va, .int .i64 tm, .int .i64 sr, .int .i64 sq] := by have h := (At.new (w) #[.slice a zs.length cap, .int .i64 va, .int .i64 tm, .int .i64 sr, .int .i64 sq] 25); simpa using h
  have B : Below w.heap.size w ((w).alloc (.cells #[.slice a zs.length cap, .int .i64 va, .int .i64 tm, .int .i64 sr, .int .i64 sq] 25)) := below_new (Below.refl _ _) (.cells #[.slice a zs.length cap, .int .i64 va, .int .i64 tm, .int .i64 sr, .int .i64 sq] 25)
  go_wp2_with fail
  generalize (w).alloc (.cells #[.slice a zs.length cap, .int .i64 va, .int .i64 tm, .int .i64 sr, .int .i64 sq] 25) = W2 at *
  have aP0 := DP.cell 0 _ rfl
  have aP1 := DP.cell 1 _ rfl
  have aP2 := DP.cell 2 _ rfl
  have aP3 := DP.cell 3 _ rfl
  have aP4 := DP.cell 4 _ rfl
  have nP := DP.lt
  have LB : Labs W2.heap.size W2 (.slice a zs.length cap) zs := labs_on hI B
  refine wp_region_held_drew (S := fun w' => w'.cell? ⟨w.heap.size, 0, none⟩ = some (.slice a zs.length cap) ∧ w'.cell? ⟨w.heap.size, 1, none⟩ = some (.int .i64 va) ∧ w'.cell? ⟨w.heap.size, 2, none⟩ = some (.int .i64 tm) ∧ w'.cell? ⟨w.heap.size, 3, none⟩ = some (.int .i64 sr) ∧ w'.cell? ⟨w.heap.size, 4, none⟩ = some (.int .i64 sq) ∧ Below w.heap.size w w') (by kernel_rfl) ?_ (fun hS => ?_)
  · (try dsimp only)
    (repeat' apply And.intro) <;> first | go_cell | exact B.drew
  refine' wpAnyH_take (i := 0) (oi := ?oiT0) (v := ?vT0) ?hiT0 (by kernel_rfl) (by kernel_rfl) (by kernel_rfl) ?hQT0 ?hyT0 hS ?restT0
  case hiT0 =>
    simp only [List.getElem?_toArray, List.getElem?_cons_succ, List.getElem?_cons_zero]
    exact rfl
  case hQT0 => exact fun _ _ _ h => h
  case hyT0 =>
    refine Or.inl ⟨by rfl, ?_⟩
    intro w hSw
    (try dsimp only at hSw)
    go_simp
    (try with_reducible rfl)
  (try simp only [Act.put, List.setIfInBounds_toArray, List.set_cons_zero, List.set_cons_succ])
  refine' wpAnyH_take (i := 1) (oi := ?oiT1) (v := ?vT1) ?hiT1 (by kernel_rfl) (by kernel_rfl) (by kernel_rfl) ?hQT1 ?hyT1 hS ?restT1
  case hiT1 =>
    simp only [List.getElem?_toArray, List.getElem?_cons_succ, List.getElem?_cons_zero]
    exact rfl
  case hQT1 => exact fun _ _ _ h => h
  case hyT1 =>
    refine Or.inl ⟨by rfl, ?_⟩
    intro w hSw
    (try dsimp only at hSw)
    go_simp
    (try with_reducible rfl)
  (try simp only [Act.put, List.setIfInBounds_toArray, List.set_cons_zero, List.set_cons_succ])
  refine' wpAnyH_take (i := 2) (oi := ?oiT2) (v := ?vT2) ?hiT2 (by kernel_rfl) (by kernel_rfl) (by kernel_rfl) ?hQT2 ?hyT2 hS ?restT2
  case hiT2 =>
    simp only [List.getElem?_toArray, List.getElem?_cons_succ, List.getElem?_cons_zero]
    exact rfl
  case hQT2 => exact fun _ _ _ h => h
  case hyT2 =>
    refine Or.inl ⟨by rfl, ?_⟩
    intro w hSw
    (try dsimp only at hSw)
    go_simp
    (try with_reducible rfl)
  (try simp only [Act.put, List.setIfInBounds_toArray, List.set_cons_zero, List.set_cons_succ])
  refine wpAnyH_ready (rs := [3]) (by kernel_rfl) (by simp) ?_
  refine' AllReadyH.cons (o := ?ooC3) ?hoC3 (fun K hK => ?stepC3) AllReadyH.nil
  case hoC3 =>
    simp only [List.getElem?_toArray, List.getElem?_cons_succ, List.getElem?_cons_zero]
    exact rfl
  go_simp
  go_at_call 20
  refine (NO.out _).mono ?_
  rintro e w1 ⟨rfl, hb1⟩
  go_wp2_with fail
  refine hK.out _ _ ?_ (fun hS => ?_)
  · (try dsimp only)
    go_split_ands
    (repeat' apply And.intro) <;> first | (refine cell_later hb1 ?_; with_reducible assumption) | (refine below_then ?_ hb1; with_reducible assumption)
  clear hK K hb1
  (try simp only [Act.put, List.setIfInBounds_toArray, List.set_cons_zero, List.set_cons_succ])
  refine wpAnyH_ready (rs := [4]) (by kernel_rfl) (by simp) ?_
  refine' AllReadyH.cons (o := ?oo4) ?ho4 (fun K hK => ?st4) AllReadyH.nil
  case ho4 =>
    simp only [List.getElem?_toArray, List.getElem?_cons_succ, List.getElem?_cons_zero]
    exact rfl
  go_simp
  go_at_call 19
  refine (C.out _ hS.2.2.2.2.2).mono ?_
  rintro e w3 ⟨rfl, hb3⟩
  go_wp2_with fail
  refine hK.out _ _ ?_ (fun hS => ?_)
  · (try dsimp only)
    go_split_ands
    (repeat' apply And.intro) <;> first | (refine cell_later hb3 ?_; with_reducible assumption) | (refine below_then ?_ hb3; with_reducible assumption)
  clear hK K hb3
  (try simp only [Act.put, List.setIfInBounds_toArray, List.set_cons_zero, List.set_cons_succ])
  refine' wpAnyH_take (i := 5) (oi := ?oi5) (v := ?v5) ?hi5 (by kernel_rfl) (by kernel_rfl) (by kernel_rfl) ?hQ5 ?hy5 hS ?rest5
  case hi5 =>
    simp only [List.getElem?_toArray, List.getElem?_cons_succ, List.getElem?_cons_zero]
    exact rfl
  case hQ5 => exact fun _ _ _ h => h
  case hy5 =>
    refine Or.inl ⟨by rfl, ?_⟩
    intro w hSw
    (try dsimp only at hSw)
    go_simp
    (try with_reducible rfl)
  (try simp only [Act.put, List.setIfInBounds_toArray, List.set_cons_zero, List.set_cons_succ])
  refine wpAnyH_done (by kernel_rfl) ?_ _
  have hB := hS.2.2.2.2.2
  clear hS
  go_wp2
  go_ret
  exact ⟨rfl, hB⟩
end Go.Proofs.YtgldieboflmnhaaGreatDoor
