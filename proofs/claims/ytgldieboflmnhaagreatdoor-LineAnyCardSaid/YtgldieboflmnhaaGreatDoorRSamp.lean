/- The reference's Time, CheckSample. -/
import Derived.Test.YtgldieboflmnhaaGreatDoorRefK
import Derived.Test.YtgldieboflmnhaaGreatDoorTextL
namespace Go.Proofs.YtgldieboflmnhaaGreatDoor
open Go Go.Proofs Go.RowKit Go.Shelf
set_option maxRecDepth 100000
attribute [local go_sem] Oper.semAt_some
theorem rtime_any (t : Int) (w : World) : Calls Tryz.prog 17 #[.int .i64 t] w fun e w' => e = .returned (.int .i64 (timeR t)) ∧ Below w.heap.size w w' := by
  unfold timeR
  by_cases h1 : t < 0
  · rw [if_pos (.inl h1)]
    go_enter Tryz.func17, Tryz.ntmps17
    go_wp2
    go_ret
    exact ⟨rfl, Below.refl _ _⟩
  · by_cases h2 : 4398046511104 < t
    · rw [if_pos (.inr h2)]
      go_enter Tryz.func17, Tryz.ntmps17
      go_wp2
      go_ret
      exact ⟨rfl, Below.refl _ _⟩
    · rw [if_neg (by omega)]
      go_enter Tryz.func17, Tryz.ntmps17
      go_wp2
      go_ret
      exact ⟨rfl, Below.refl _ _⟩
set_option maxHeartbeats 4000000 in
theorem rsamp_bad (a : Option Addr) (n cap : Nat) (zs : List SLab) (hreach : zs.length ≤ 100) (va tm sr sq : Int) (w : World) (hI : Labs w.heap.size w (.slice a n cap) zs) (hc : checkR zs ≠ 0) :
    Calls Tryz.prog 7 #[.agg #[.slice a n cap, .int .i64 va, .int .i64 tm, .int .i64 sr, .int .i64 sq]] w fun e w' => e = .returned (.int .i64 (checkR zs)) ∧ Below w.heap.size w w' := by
  obtain rfl : n = zs.length := hI.len
  have CK := Lib.hid (fun W (hW : Below w.heap.size w W) => rcheck_any a zs.length cap zs hreach W (labs_on hI hW))
  have TM := Lib.hid (fun W => rtime_any tm W)
  generalize checkR zs = c at *
  clear hI
  go_enter Tryz.func7, Tryz.ntmps7
  have A1 := blk_new w #[.slice a zs.length cap, .int .i64 va, .int .i64 tm, .int .i64 sr, .int .i64 sq] 31
  have B1 := below_cells (w := w) (.cells #[.slice a zs.length cap, .int .i64 va, .int .i64 tm, .int .i64 sr, .int .i64 sq] 31)
  have p0 := (blk_at A1).cell 0 _ rfl
  have p1 := (blk_at A1).cell 1 _ rfl
  have p2 := (blk_at A1).cell 2 _ rfl
  have p3 := (blk_at A1).cell 3 _ rfl
  have p4 := (blk_at A1).cell 4 _ rfl
  go_wp2_with fail
  refine (CK.out _ B1).mono ?_
  rintro e u0 ⟨rfl, hb⟩
  have E1 := blk_on A1 hb
  have C1 := B1.trans (hb.mono B1.size)
  clear A1 B1 hb p0 p1 p2 p3 p4
  have A1 := E1
  have B1 := C1
  clear E1 C1
  have p0 := (blk_at A1).cell 0 _ rfl
  have p1 := (blk_at A1).cell 1 _ rfl
  have p2 := (blk_at A1).cell 2 _ rfl
  have p3 := (blk_at A1).cell 3 _ rfl
  have p4 := (blk_at A1).cell 4 _ rfl
  go_wp2
  go_ret
  exact ⟨rfl, B1⟩
set_option maxHeartbeats 4000000 in
theorem rsamp_none (a : Option Addr) (n cap : Nat) (zs : List SLab) (hreach : zs.length ≤ 100) (va tm sr sq : Int) (w : World) (hI : Labs w.heap.size w (.slice a n cap) zs) (hc : checkR zs = 0) (hz : zs.length = 0) :
    Calls Tryz.prog 7 #[.agg #[.slice a n cap, .int .i64 va, .int .i64 tm, .int .i64 sr, .int .i64 sq]] w fun e w' => e = .returned (.int .i64 5) ∧ Below w.heap.size w w' := by
  obtain rfl : n = zs.length := hI.len
  have CK := Lib.hid (fun W (hW : Below w.heap.size w W) => rcheck_any a zs.length cap zs hreach W (labs_on hI hW))
  have TM := Lib.hid (fun W => rtime_any tm W)
  rw [hc] at CK
  clear hc hI
  clear TM
  obtain rfl := List.eq_nil_of_length_eq_zero hz
  simp only [List.length_nil] at CK
  clear hz
  show Calls _ _ #[.agg #[.slice a 0 cap, .int .i64 va, .int .i64 tm, .int .i64 sr, .int .i64 sq]] _ _
  go_enter Tryz.func7, Tryz.ntmps7
  have A1 := blk_new w #[.slice a 0 cap, .int .i64 va, .int .i64 tm, .int .i64 sr, .int .i64 sq] 31
  have B1 := below_cells (w := w) (.cells #[.slice a 0 cap, .int .i64 va, .int .i64 tm, .int .i64 sr, .int .i64 sq] 31)
  have p0 := (blk_at A1).cell 0 _ rfl
  have p1 := (blk_at A1).cell 1 _ rfl
  have p2 := (blk_at A1).cell 2 _ rfl
  have p3 := (blk_at A1).cell 3 _ rfl
  have p4 := (blk_at A1).cell 4 _ rfl
  go_wp2_with fail
  refine (CK.out _ B1).mono ?_
  rintro e u0 ⟨rfl, hb⟩
  have E1 := blk_on A1 hb
  have C1 := B1.trans (hb.mono B1.size)
  clear A1 B1 hb p0 p1 p2 p3 p4
  have A1 := E1
  have B1 := C1
  clear E1 C1
  have p0 := (blk_at A1).cell 0 _ rfl
  have p1 := (blk_at A1).cell 1 _ rfl
  have p2 := (blk_at A1).cell 2 _ rfl
  have p3 := (blk_at A1).cell 3 _ rfl
  have p4 := (blk_at A1).cell 4 _ rfl
  go_wp2
  go_ret
  exact ⟨rfl, B1⟩
set_option maxHeartbeats 4000000 in
theorem rsamp_late (a : Option Addr) (n cap : Nat) (zs : List SLab) (hreach : zs.length ≤ 100) (va tm sr sq : Int) (w : World) (hI : Labs w.heap.size w (.slice a n cap) zs) (hc : checkR zs = 0) (hz : zs.length ≠ 0) (ht : timeR tm ≠ 0) :
    Calls Tryz.prog 7 #[.agg #[.slice a n cap, .int .i64 va, .int .i64 tm, .int .i64 sr, .int .i64 sq]] w fun e w' => e = .returned (.int .i64 1) ∧ Below w.heap.size w w' := by
  obtain rfl : n = zs.length := hI.len
  have CK := Lib.hid (fun W (hW : Below w.heap.size w W) => rcheck_any a zs.length cap zs hreach W (labs_on hI hW))
  have TM := Lib.hid (fun W => rtime_any tm W)
  rw [hc] at CK
  clear hc hI
  have hz2 : ((zs.length : Int) == 0) = false := by rw [beq_eq_false_iff_ne]; omega
  generalize timeR tm = c at *
  go_enter Tryz.func7, Tryz.ntmps7
  have A1 := blk_new w #[.slice a zs.length cap, .int .i64 va, .int .i64 tm, .int .i64 sr, .int .i64 sq] 31
  have B1 := below_cells (w := w) (.cells #[.slice a zs.length cap, .int .i64 va, .int .i64 tm, .int .i64 sr, .int .i64 sq] 31)
  have p0 := (blk_at A1).cell 0 _ rfl
  have p1 := (blk_at A1).cell 1 _ rfl
  have p2 := (blk_at A1).cell 2 _ rfl
  have p3 := (blk_at A1).cell 3 _ rfl
  have p4 := (blk_at A1).cell 4 _ rfl
  go_wp2_with fail
  refine (CK.out _ B1).mono ?_
  rintro e u0 ⟨rfl, hb⟩
  have E1 := blk_on A1 hb
  have C1 := B1.trans (hb.mono B1.size)
  clear A1 B1 hb p0 p1 p2 p3 p4
  have A1 := E1
  have B1 := C1
  clear E1 C1
  have p0 := (blk_at A1).cell 0 _ rfl
  have p1 := (blk_at A1).cell 1 _ rfl
  have p2 := (blk_at A1).cell 2 _ rfl
  have p3 := (blk_at A1).cell 3 _ rfl
  have p4 := (blk_at A1).cell 4 _ rfl
  go_wp2_with fail
  refine (TM.out _).mono ?_
  rintro e u1 ⟨rfl, hb⟩
  have E1 := blk_on A1 hb
  have C1 := B1.trans (hb.mono B1.size)
  clear A1 B1 hb p0 p1 p2 p3 p4
  have A1 := E1
  have B1 := C1
  clear E1 C1
  have p0 := (blk_at A1).cell 0 _ rfl
  have p1 := (blk_at A1).cell 1 _ rfl
  have p2 := (blk_at A1).cell 2 _ rfl
  have p3 := (blk_at A1).cell 3 _ rfl
  have p4 := (blk_at A1).cell 4 _ rfl
  go_wp2
  go_ret
  exact ⟨rfl, B1⟩
set_option maxHeartbeats 4000000 in
theorem rsamp_s0 (a : Option Addr) (n cap : Nat) (zs : List SLab) (hreach : zs.length ≤ 100) (va tm sr sq : Int) (w : World) (hI : Labs w.heap.size w (.slice a n cap) zs) (hc : checkR zs = 0) (hz : zs.length ≠ 0) (ht : timeR tm = 0) (h1 : sr < 1) :
    Calls Tryz.prog 7 #[.agg #[.slice a n cap, .int .i64 va, .int .i64 tm, .int .i64 sr, .int .i64 sq]] w fun e w' => e = .returned (.int .i64 1) ∧ Below w.heap.size w w' := by
  obtain rfl : n = zs.length := hI.len
  have CK := Lib.hid (fun W (hW : Below w.heap.size w W) => rcheck_any a zs.length cap zs hreach W (labs_on hI hW))
  have TM := Lib.hid (fun W => rtime_any tm W)
  rw [hc] at CK
  clear hc hI
  have hz2 : ((zs.length : Int) == 0) = false := by rw [beq_eq_false_iff_ne]; omega
  rw [ht] at TM
  clear ht
  go_enter Tryz.func7, Tryz.ntmps7
  have A1 := blk_new w #[.slice a zs.length cap, .int .i64 va, .int .i64 tm, .int .i64 sr, .int .i64 sq] 31
  have B1 := below_cells (w := w) (.cells #[.slice a zs.length cap, .int .i64 va, .int .i64 tm, .int .i64 sr, .int .i64 sq] 31)
  have p0 := (blk_at A1).cell 0 _ rfl
  have p1 := (blk_at A1).cell 1 _ rfl
  have p2 := (blk_at A1).cell 2 _ rfl
  have p3 := (blk_at A1).cell 3 _ rfl
  have p4 := (blk_at A1).cell 4 _ rfl
  go_wp2_with fail
  refine (CK.out _ B1).mono ?_
  rintro e u0 ⟨rfl, hb⟩
  have E1 := blk_on A1 hb
  have C1 := B1.trans (hb.mono B1.size)
  clear A1 B1 hb p0 p1 p2 p3 p4
  have A1 := E1
  have B1 := C1
  clear E1 C1
  have p0 := (blk_at A1).cell 0 _ rfl
  have p1 := (blk_at A1).cell 1 _ rfl
  have p2 := (blk_at A1).cell 2 _ rfl
  have p3 := (blk_at A1).cell 3 _ rfl
  have p4 := (blk_at A1).cell 4 _ rfl
  go_wp2_with fail
  refine (TM.out _).mono ?_
  rintro e u1 ⟨rfl, hb⟩
  have E1 := blk_on A1 hb
  have C1 := B1.trans (hb.mono B1.size)
  clear A1 B1 hb p0 p1 p2 p3 p4
  have A1 := E1
  have B1 := C1
  clear E1 C1
  have p0 := (blk_at A1).cell 0 _ rfl
  have p1 := (blk_at A1).cell 1 _ rfl
  have p2 := (blk_at A1).cell 2 _ rfl
  have p3 := (blk_at A1).cell 3 _ rfl
  have p4 := (blk_at A1).cell 4 _ rfl
  go_wp2
  go_ret
  exact ⟨rfl, B1⟩
set_option maxHeartbeats 4000000 in
theorem rsamp_s1 (a : Option Addr) (n cap : Nat) (zs : List SLab) (hreach : zs.length ≤ 100) (va tm sr sq : Int) (w : World) (hI : Labs w.heap.size w (.slice a n cap) zs) (hc : checkR zs = 0) (hz : zs.length ≠ 0) (ht : timeR tm = 0) (h1 : ¬ sr < 1) (h2 : 16 < sr) :
    Calls Tryz.prog 7 #[.agg #[.slice a n cap, .int .i64 va, .int .i64 tm, .int .i64 sr, .int .i64 sq]] w fun e w' => e = .returned (.int .i64 1) ∧ Below w.heap.size w w' := by
  obtain rfl : n = zs.length := hI.len
  have CK := Lib.hid (fun W (hW : Below w.heap.size w W) => rcheck_any a zs.length cap zs hreach W (labs_on hI hW))
  have TM := Lib.hid (fun W => rtime_any tm W)
  rw [hc] at CK
  clear hc hI
  have hz2 : ((zs.length : Int) == 0) = false := by rw [beq_eq_false_iff_ne]; omega
  rw [ht] at TM
  clear ht
  go_enter Tryz.func7, Tryz.ntmps7
  have A1 := blk_new w #[.slice a zs.length cap, .int .i64 va, .int .i64 tm, .int .i64 sr, .int .i64 sq] 31
  have B1 := below_cells (w := w) (.cells #[.slice a zs.length cap, .int .i64 va, .int .i64 tm, .int .i64 sr, .int .i64 sq] 31)
  have p0 := (blk_at A1).cell 0 _ rfl
  have p1 := (blk_at A1).cell 1 _ rfl
  have p2 := (blk_at A1).cell 2 _ rfl
  have p3 := (blk_at A1).cell 3 _ rfl
  have p4 := (blk_at A1).cell 4 _ rfl
  go_wp2_with fail
  refine (CK.out _ B1).mono ?_
  rintro e u0 ⟨rfl, hb⟩
  have E1 := blk_on A1 hb
  have C1 := B1.trans (hb.mono B1.size)
  clear A1 B1 hb p0 p1 p2 p3 p4
  have A1 := E1
  have B1 := C1
  clear E1 C1
  have p0 := (blk_at A1).cell 0 _ rfl
  have p1 := (blk_at A1).cell 1 _ rfl
  have p2 := (blk_at A1).cell 2 _ rfl
  have p3 := (blk_at A1).cell 3 _ rfl
  have p4 := (blk_at A1).cell 4 _ rfl
  go_wp2_with fail
  refine (TM.out _).mono ?_
  rintro e u1 ⟨rfl, hb⟩
  have E1 := blk_on A1 hb
  have C1 := B1.trans (hb.mono B1.size)
  clear A1 B1 hb p0 p1 p2 p3 p4
  have A1 := E1
  have B1 := C1
  clear E1 C1
  have p0 := (blk_at A1).cell 0 _ rfl
  have p1 := (blk_at A1).cell 1 _ rfl
  have p2 := (blk_at A1).cell 2 _ rfl
  have p3 := (blk_at A1).cell 3 _ rfl
  have p4 := (blk_at A1).cell 4 _ rfl
  go_wp2
  go_ret
  exact ⟨rfl, B1⟩
set_option maxHeartbeats 4000000 in
theorem rsamp_q0 (a : Option Addr) (n cap : Nat) (zs : List SLab) (hreach : zs.length ≤ 100) (va tm sr sq : Int) (w : World) (hI : Labs w.heap.size w (.slice a n cap) zs) (hc : checkR zs = 0) (hz : zs.length ≠ 0) (ht : timeR tm = 0) (h1 : ¬ sr < 1) (h2 : ¬ 16 < sr) (h3 : sq < 1) :
    Calls Tryz.prog 7 #[.agg #[.slice a n cap, .int .i64 va, .int .i64 tm, .int .i64 sr, .int .i64 sq]] w fun e w' => e = .returned (.int .i64 1) ∧ Below w.heap.size w w' := by
  obtain rfl : n = zs.length := hI.len
  have CK := Lib.hid (fun W (hW : Below w.heap.size w W) => rcheck_any a zs.length cap zs hreach W (labs_on hI hW))
  have TM := Lib.hid (fun W => rtime_any tm W)
  rw [hc] at CK
  clear hc hI
  have hz2 : ((zs.length : Int) == 0) = false := by rw [beq_eq_false_iff_ne]; omega
  rw [ht] at TM
  clear ht
  go_enter Tryz.func7, Tryz.ntmps7
  have A1 := blk_new w #[.slice a zs.length cap, .int .i64 va, .int .i64 tm, .int .i64 sr, .int .i64 sq] 31
  have B1 := below_cells (w := w) (.cells #[.slice a zs.length cap, .int .i64 va, .int .i64 tm, .int .i64 sr, .int .i64 sq] 31)
  have p0 := (blk_at A1).cell 0 _ rfl
  have p1 := (blk_at A1).cell 1 _ rfl
  have p2 := (blk_at A1).cell 2 _ rfl
  have p3 := (blk_at A1).cell 3 _ rfl
  have p4 := (blk_at A1).cell 4 _ rfl
  go_wp2_with fail
  refine (CK.out _ B1).mono ?_
  rintro e u0 ⟨rfl, hb⟩
  have E1 := blk_on A1 hb
  have C1 := B1.trans (hb.mono B1.size)
  clear A1 B1 hb p0 p1 p2 p3 p4
  have A1 := E1
  have B1 := C1
  clear E1 C1
  have p0 := (blk_at A1).cell 0 _ rfl
  have p1 := (blk_at A1).cell 1 _ rfl
  have p2 := (blk_at A1).cell 2 _ rfl
  have p3 := (blk_at A1).cell 3 _ rfl
  have p4 := (blk_at A1).cell 4 _ rfl
  go_wp2_with fail
  refine (TM.out _).mono ?_
  rintro e u1 ⟨rfl, hb⟩
  have E1 := blk_on A1 hb
  have C1 := B1.trans (hb.mono B1.size)
  clear A1 B1 hb p0 p1 p2 p3 p4
  have A1 := E1
  have B1 := C1
  clear E1 C1
  have p0 := (blk_at A1).cell 0 _ rfl
  have p1 := (blk_at A1).cell 1 _ rfl
  have p2 := (blk_at A1).cell 2 _ rfl
  have p3 := (blk_at A1).cell 3 _ rfl
  have p4 := (blk_at A1).cell 4 _ rfl
  go_wp2
  go_ret
  exact ⟨rfl, B1⟩
set_option maxHeartbeats 4000000 in
theorem rsamp_q1 (a : Option Addr) (n cap : Nat) (zs : List SLab) (hreach : zs.length ≤ 100) (va tm sr sq : Int) (w : World) (hI : Labs w.heap.size w (.slice a n cap) zs) (hc : checkR zs = 0) (hz : zs.length ≠ 0) (ht : timeR tm = 0) (h1 : ¬ sr < 1) (h2 : ¬ 16 < sr) (h3 : ¬ sq < 1) (h4 : 9007199254740992 < sq) :
    Calls Tryz.prog 7 #[.agg #[.slice a n cap, .int .i64 va, .int .i64 tm, .int .i64 sr, .int .i64 sq]] w fun e w' => e = .returned (.int .i64 1) ∧ Below w.heap.size w w' := by
  obtain rfl : n = zs.length := hI.len
  have CK := Lib.hid (fun W (hW : Below w.heap.size w W) => rcheck_any a zs.length cap zs hreach W (labs_on hI hW))
  have TM := Lib.hid (fun W => rtime_any tm W)
  rw [hc] at CK
  clear hc hI
  have hz2 : ((zs.length : Int) == 0) = false := by rw [beq_eq_false_iff_ne]; omega
  rw [ht] at TM
  clear ht
  go_enter Tryz.func7, Tryz.ntmps7
  have A1 := blk_new w #[.slice a zs.length cap, .int .i64 va, .int .i64 tm, .int .i64 sr, .int .i64 sq] 31
  have B1 := below_cells (w := w) (.cells #[.slice a zs.length cap, .int .i64 va, .int .i64 tm, .int .i64 sr, .int .i64 sq] 31)
  have p0 := (blk_at A1).cell 0 _ rfl
  have p1 := (blk_at A1).cell 1 _ rfl
  have p2 := (blk_at A1).cell 2 _ rfl
  have p3 := (blk_at A1).cell 3 _ rfl
  have p4 := (blk_at A1).cell 4 _ rfl
  go_wp2_with fail
  refine (CK.out _ B1).mono ?_
  rintro e u0 ⟨rfl, hb⟩
  have E1 := blk_on A1 hb
  have C1 := B1.trans (hb.mono B1.size)
  clear A1 B1 hb p0 p1 p2 p3 p4
  have A1 := E1
  have B1 := C1
  clear E1 C1
  have p0 := (blk_at A1).cell 0 _ rfl
  have p1 := (blk_at A1).cell 1 _ rfl
  have p2 := (blk_at A1).cell 2 _ rfl
  have p3 := (blk_at A1).cell 3 _ rfl
  have p4 := (blk_at A1).cell 4 _ rfl
  go_wp2_with fail
  refine (TM.out _).mono ?_
  rintro e u1 ⟨rfl, hb⟩
  have E1 := blk_on A1 hb
  have C1 := B1.trans (hb.mono B1.size)
  clear A1 B1 hb p0 p1 p2 p3 p4
  have A1 := E1
  have B1 := C1
  clear E1 C1
  have p0 := (blk_at A1).cell 0 _ rfl
  have p1 := (blk_at A1).cell 1 _ rfl
  have p2 := (blk_at A1).cell 2 _ rfl
  have p3 := (blk_at A1).cell 3 _ rfl
  have p4 := (blk_at A1).cell 4 _ rfl
  go_wp2
  go_ret
  exact ⟨rfl, B1⟩
set_option maxHeartbeats 4000000 in
theorem rsamp_ok (a : Option Addr) (n cap : Nat) (zs : List SLab) (hreach : zs.length ≤ 100) (va tm sr sq : Int) (w : World) (hI : Labs w.heap.size w (.slice a n cap) zs) (hc : checkR zs = 0) (hz : zs.length ≠ 0) (ht : timeR tm = 0) (h1 : ¬ sr < 1) (h2 : ¬ 16 < sr) (h3 : ¬ sq < 1) (h4 : ¬ 9007199254740992 < sq) :
    Calls Tryz.prog 7 #[.agg #[.slice a n cap, .int .i64 va, .int .i64 tm, .int .i64 sr, .int .i64 sq]] w fun e w' => e = .returned (.int .i64 0) ∧ Below w.heap.size w w' := by
  obtain rfl : n = zs.length := hI.len
  have CK := Lib.hid (fun W (hW : Below w.heap.size w W) => rcheck_any a zs.length cap zs hreach W (labs_on hI hW))
  have TM := Lib.hid (fun W => rtime_any tm W)
  rw [hc] at CK
  clear hc hI
  have hz2 : ((zs.length : Int) == 0) = false := by rw [beq_eq_false_iff_ne]; omega
  rw [ht] at TM
  clear ht
  go_enter Tryz.func7, Tryz.ntmps7
  have A1 := blk_new w #[.slice a zs.length cap, .int .i64 va, .int .i64 tm, .int .i64 sr, .int .i64 sq] 31
  have B1 := below_cells (w := w) (.cells #[.slice a zs.length cap, .int .i64 va, .int .i64 tm, .int .i64 sr, .int .i64 sq] 31)
  have p0 := (blk_at A1).cell 0 _ rfl
  have p1 := (blk_at A1).cell 1 _ rfl
  have p2 := (blk_at A1).cell 2 _ rfl
  have p3 := (blk_at A1).cell 3 _ rfl
  have p4 := (blk_at A1).cell 4 _ rfl
  go_wp2_with fail
  refine (CK.out _ B1).mono ?_
  rintro e u0 ⟨rfl, hb⟩
  have E1 := blk_on A1 hb
  have C1 := B1.trans (hb.mono B1.size)
  clear A1 B1 hb p0 p1 p2 p3 p4
  have A1 := E1
  have B1 := C1
  clear E1 C1
  have p0 := (blk_at A1).cell 0 _ rfl
  have p1 := (blk_at A1).cell 1 _ rfl
  have p2 := (blk_at A1).cell 2 _ rfl
  have p3 := (blk_at A1).cell 3 _ rfl
  have p4 := (blk_at A1).cell 4 _ rfl
  go_wp2_with fail
  refine (TM.out _).mono ?_
  rintro e u1 ⟨rfl, hb⟩
  have E1 := blk_on A1 hb
  have C1 := B1.trans (hb.mono B1.size)
  clear A1 B1 hb p0 p1 p2 p3 p4
  have A1 := E1
  have B1 := C1
  clear E1 C1
  have p0 := (blk_at A1).cell 0 _ rfl
  have p1 := (blk_at A1).cell 1 _ rfl
  have p2 := (blk_at A1).cell 2 _ rfl
  have p3 := (blk_at A1).cell 3 _ rfl
  have p4 := (blk_at A1).cell 4 _ rfl
  go_wp2
  go_ret
  exact ⟨rfl, B1⟩
theorem rsamp_any (a : Option Addr) (n cap : Nat) (zs : List SLab) (hreach : zs.length ≤ 100) (va tm sr sq : Int) (w : World) (hI : Labs w.heap.size w (.slice a n cap) zs) :
    Calls Tryz.prog 7 #[.agg #[.slice a n cap, .int .i64 va, .int .i64 tm, .int .i64 sr, .int .i64 sq]] w fun e w' => e = .returned (.int .i64 (sampR zs tm sr sq)) ∧ Below w.heap.size w w' := by
  unfold sampR
  by_cases hc : checkR zs = 0
  · rw [if_neg (by rw [hc]; decide)]
    by_cases hz : zs.length = 0
    · rw [if_pos hz]; exact rsamp_none a n cap zs hreach va tm sr sq w hI hc hz
    · rw [if_neg hz]
      by_cases ht : timeR tm = 0
      · rw [if_neg (by rw [ht]; decide)]
        by_cases h1 : sr < 1
        · rw [if_pos (.inl h1)]; exact rsamp_s0 a n cap zs hreach va tm sr sq w hI hc hz ht h1
        · by_cases h2 : 16 < sr
          · rw [if_pos (.inr (.inl h2))]; exact rsamp_s1 a n cap zs hreach va tm sr sq w hI hc hz ht h1 h2
          · by_cases h3 : sq < 1
            · rw [if_pos (.inr (.inr (.inl h3)))]; exact rsamp_q0 a n cap zs hreach va tm sr sq w hI hc hz ht h1 h2 h3
            · by_cases h4 : 9007199254740992 < sq
              · rw [if_pos (.inr (.inr (.inr h4)))]; exact rsamp_q1 a n cap zs hreach va tm sr sq w hI hc hz ht h1 h2 h3 h4
              · rw [if_neg (by omega)]; exact rsamp_ok a n cap zs hreach va tm sr sq w hI hc hz ht h1 h2 h3 h4
      · rw [if_pos ht]
        have h1 : timeR tm = 1 := by unfold timeR at *; split at ht <;> simp_all
        rw [h1]; exact rsamp_late a n cap zs hreach va tm sr sq w hI hc hz ht
  · rw [if_pos hc]; exact rsamp_bad a n cap zs hreach va tm sr sq w hI hc
end Go.Proofs.YtgldieboflmnhaaGreatDoor
