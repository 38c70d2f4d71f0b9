/- line.Parse: a text whose end is no numbers; one whose labels are read. -/
import Derived.Test.YteagpkkffnehiaaGreatDoorPNums
namespace Go.Proofs.YteagpkkffnehiaaGreatDoor
open Go Go.Proofs Go.RowKit Go.Shelf
set_option maxRecDepth 100000
attribute [local go_sem] Oper.semAt_some
set_option maxHeartbeats 4000000 in
theorem lparse_bad (l : List UInt8) (hl : l.length ≤ 100000) (k : Nat) (hk : k ≤ l.length) (hi : Lib.lastIndexByte ⟨l.toArray⟩ 125 + 1 = (k : Int)) (hno : numsOk (l.drop k) = false) (w : World) (ht : Tab w) (he : ErrsOk w) :
    Calls Tryz.prog 13 #[.string ⟨l.toArray⟩] w fun e w' => e = .returned (.tuple #[sampV (.slice none 0 0) 0 0 0 0, .int .i64 2]) ∧ Below w.heap.size w w' := by
  have LI := Lib.hid (fun W => Tryz.strings_LastIndexByte ⟨l.toArray⟩ 125 (by show l.length < _; omega) W)
  have PN := Lib.hid (fun W (hW : Below w.heap.size w W) => parseNumbers_any (l.drop k) (by rw [List.length_drop]; omega) W (ht.below hW) (he.below hW))
  rw [hno] at PN
  have hs : (⟨l.toArray⟩ : ByteArray).size = l.length := rfl
  have e2 := ext_back l k
  generalize l.drop k = R at *
  obtain ⟨n0, n1, n2, n3, hn⟩ : ∃ n0 n1 n2 n3, cellsN (numsR R) = #[.int .i64 n0, .int .i64 n1, .int .i64 n2, .int .i64 n3] := ⟨_, _, _, _, rfl⟩
  rw [hn] at PN
  clear hno hn
  have hidx : Lib.lastIndexByte ⟨l.toArray⟩ 125 = (k : Int) - 1 := by omega
  rw [hidx] at LI
  clear hi hidx
  unfold sampV
  go_enter Tryz.func13, Tryz.ntmps13
  have DR : At ((w).alloc (.cells #[.slice none 0 0, .int .i64 0, .int .i64 0, .int .i64 0, .int .i64 0] 25)) (w.heap.size) [.slice none 0 0, .int .i64 0, .int .i64 0, .int .i64 0, .int .i64 0] := by have h := (At.new (w) #[.slice none 0 0, .int .i64 0, .int .i64 0, .int .i64 0, .int .i64 0] 25); simpa using h
  have B : Below w.heap.size w ((w).alloc (.cells #[.slice none 0 0, .int .i64 0, .int .i64 0, .int .i64 0, .int .i64 0] 25)) := below_new (Below.refl _ _) _
  go_wp2_with fail
  refine (LI.out _).mono ?_
  rintro e w1 ⟨rfl, rfl⟩
  go_wp2_with fail
  refine (PN.out _ B).mono ?_
  rintro e w1 ⟨rfl, hb1⟩
  have DR1 := DR.below hb1
  have B1 := B.trans (hb1.mono B.size)
  clear DR
  have DR2 := DR1.alloc (.cells #[.int .i64 n0, .int .i64 n1, .int .i64 n2, .int .i64 n3] 51)
  have B2 := below_new B1 (.cells #[.int .i64 n0, .int .i64 n1, .int .i64 n2, .int .i64 n3] 51)
  have r0 := DR2.cell 0 _ rfl
  have r1 := DR2.cell 1 _ rfl
  have r2 := DR2.cell 2 _ rfl
  have r3 := DR2.cell 3 _ rfl
  have r4 := DR2.cell 4 _ rfl
  have f0 := DR2.free 0 _ rfl
  have f1 := DR2.free 1 _ rfl
  have f2 := DR2.free 2 _ rfl
  have f3 := DR2.free 3 _ rfl
  have f4 := DR2.free 4 _ rfl
  have nr := DR2.lt
  go_wp2_with fail
  have DF := (((((DR2.set 0 (.slice none 0 0)).set 1 (.int .i64 0)).set 2 (.int .i64 0)).set 3 (.int .i64 0)).set 4 (.int .i64 0))
  have BF := (((((B2.setCell (p := ⟨w.heap.size, 0, none⟩) (Nat.le_refl _) (.slice none 0 0)).setCell (p := ⟨w.heap.size, 1, none⟩) (Nat.le_refl _) (.int .i64 0)).setCell (p := ⟨w.heap.size, 2, none⟩) (Nat.le_refl _) (.int .i64 0)).setCell (p := ⟨w.heap.size, 3, none⟩) (Nat.le_refl _) (.int .i64 0)).setCell (p := ⟨w.heap.size, 4, none⟩) (Nat.le_refl _) (.int .i64 0))
  simp only [List.set_cons_zero, List.set_cons_succ] at DF
  (try simp only [Exit.inBlock, Exit.then])
  have q0 := DF.cell 0 _ rfl
  have q1 := DF.cell 1 _ rfl
  have q2 := DF.cell 2 _ rfl
  have q3 := DF.cell 3 _ rfl
  have q4 := DF.cell 4 _ rfl
  refine bodyPost_ret (v := .tuple #[.agg #[.slice none 0 0, .int .i64 0, .int .i64 0, .int .i64 0, .int .i64 0], .int .i64 2]) ?_ rfl ⟨rfl, BF⟩
  simp [results, Tryz.f13, go_sem, q0, q1, q2, q3, q4]
end Go.Proofs.YteagpkkffnehiaaGreatDoor
