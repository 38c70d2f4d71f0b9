/- line.Parse of a text whose labels are read. -/
import Derived.Test.YteagpkkffnehiaaGreatDoorLParse
import Derived.Test.YteagpkkffnehiaaGreatDoorLBack
namespace Go.Proofs.YteagpkkffnehiaaGreatDoor
open Go Go.Proofs Go.RowKit Go.Shelf
set_option maxRecDepth 100000
attribute [local go_sem] Oper.semAt_some
theorem blk_cellq {W : World} {b j : Nat} {cs : Array Value} {T : TypeId} (h : Blk W b cs T) : W.cell? ⟨b, j, none⟩ = cs[j]? := by
  unfold World.cell?
  dsimp only
  rw [show W.heap[b]? = _ from h]
  rfl
/-- a row of labels lies apart from a block that holds no text -/
theorem labs_apart {W W' : World} {b0 : Nat} {cs : Array Value} {T : TypeId} {v : Value} {zs : List SLab} (hB : Blk W b0 cs T) (hcs : ∀ (j : Nat) s, cs[j]? ≠ some (.string s)) (hk : ∀ b o, b ≠ b0 → W'.cell? ⟨b, o, none⟩ = W.cell? ⟨b, o, none⟩) (hz : W.heap.size ≤ W'.heap.size) (h : Labs W.heap.size W v zs) : Labs W'.heap.size W' v zs := by
  rcases h with h | ⟨b, off, cap, e, hb, hc⟩
  · exact .inl h
  · refine .inr ⟨b, off, cap, e, Nat.lt_of_lt_of_le hb hz, fun j x hj => ?_⟩
    have h1 := hc j x hj
    have hne : b ≠ b0 := by
      rintro rfl
      have := h1.1
      rw [blk_cellq hB] at this
      exact hcs _ _ this
    exact ⟨(hk _ _ hne).trans h1.1, (hk _ _ hne).trans h1.2⟩
theorem far5 (w : World) (b0 : Nat) (x0 x1 x2 x3 x4 : Value) : (∀ b o, b ≠ b0 → (((((w.setCell ⟨b0, 0, none⟩ x0).setCell ⟨b0, 1, none⟩ x1).setCell ⟨b0, 2, none⟩ x2).setCell ⟨b0, 3, none⟩ x3).setCell ⟨b0, 4, none⟩ x4).cell? ⟨b, o, none⟩ = w.cell? ⟨b, o, none⟩) ∧ w.heap.size ≤ (((((w.setCell ⟨b0, 0, none⟩ x0).setCell ⟨b0, 1, none⟩ x1).setCell ⟨b0, 2, none⟩ x2).setCell ⟨b0, 3, none⟩ x3).setCell ⟨b0, 4, none⟩ x4).heap.size := by
  refine ⟨fun b o hne => ?_, by simp⟩
  rw [World.cell?_setCell_far _ _ _ _ (Ne.symm hne), World.cell?_setCell_far _ _ _ _ (Ne.symm hne), World.cell?_setCell_far _ _ _ _ (Ne.symm hne), World.cell?_setCell_far _ _ _ _ (Ne.symm hne), World.cell?_setCell_far _ _ _ _ (Ne.symm hne)]
set_option maxHeartbeats 4000000 in
theorem lparse_ok (l : List UInt8) (hl : l.length ≤ 100000) (k : Nat) (hk : k ≤ l.length) (hi : Lib.lastIndexByte ⟨l.toArray⟩ 125 + 1 = (k : Int)) (va tm sr sq : Int) (hok : numsOk (l.drop k) = true) (hn : numsR (l.drop k) = numAt va tm sr sq) (zs : List SLab) (hz : zs.length ≤ 100) (w : World) (ht : Tab w) (he : ErrsOk w)
    (hP : ∀ W, Below w.heap.size w W → Calls Tryz.prog 29 #[.string ⟨(l.take k).toArray⟩] W fun e w' => ∃ v, e = .returned (.tuple #[v, .int .i64 0]) ∧ Labs w'.heap.size w' v zs ∧ Below W.heap.size W w') :
    Calls Tryz.prog 13 #[.string ⟨l.toArray⟩] w fun e w' => (sampR zs tm sr sq = 0 ∧ (∃ v, e = .returned (.tuple #[sampV v va tm sr sq, .int .i64 0]) ∧ Labs w'.heap.size w' v zs) ∨ sampR zs tm sr sq ≠ 0 ∧ e = .returned (.tuple #[sampV (.slice none 0 0) 0 0 0 0, .int .i64 (sampR zs tm sr sq)])) ∧ Below w.heap.size w w' := by
  have LI := Lib.hid (fun W => Tryz.strings_LastIndexByte ⟨l.toArray⟩ 125 (by show l.length < _; omega) W)
  have PN := Lib.hid (fun W (hW : Below w.heap.size w W) => parseNumbers_any (l.drop k) (by rw [List.length_drop]; omega) W (ht.below hW) (he.below hW))
  have hcn : cellsN (numsR (l.drop k)) = #[.int .i64 va, .int .i64 tm, .int .i64 sr, .int .i64 sq] := by rw [hn]; rfl
  rw [hok, hcn] at PN
  have hs : (⟨l.toArray⟩ : ByteArray).size = l.length := rfl
  have e1 := ext_front l k
  have e2 := ext_back l k
  have LP := Lib.hid hP
  have CK := fun (a : Option Addr) (n cap : Nat) (W : World) (hI : Labs W.heap.size W (.slice a n cap) zs) => samp_any a n cap zs hz va tm sr sq W hI
  have CK := Lib.hid CK
  clear hok hcn hn hP
  generalize l.drop k = R at *
  generalize l.take k = F at *
  have hidx : Lib.lastIndexByte ⟨l.toArray⟩ 125 = (k : Int) - 1 := by omega
  rw [hidx] at LI
  clear hi hidx
  generalize hrr : sampR zs tm sr sq = r at *
  clear hrr
  unfold sampV
  go_enter Tryz.func13, Tryz.ntmps13
  have DR : At ((w).alloc (.cells #[.slice none 0 0, .int .i64 0, .int .i64 0, .int .i64 0, .int .i64 0] 25)) (w.heap.size) [.slice none 0 0, .int .i64 0, .int .i64 0, .int .i64 0, .int .i64 0] := by have h := (At.new (w) #[.slice none 0 0, .int .i64 0, .int .i64 0, .int .i64 0, .int .i64 0] 25); simpa using h
  have B : Below w.heap.size w ((w).alloc (.cells #[.slice none 0 0, .int .i64 0, .int .i64 0, .int .i64 0, .int .i64 0] 25)) := below_new (Below.refl _ _) _
  go_wp2_with fail
  refine (LI.out _).mono ?_
  rintro e w1 ⟨rfl, rfl⟩
  go_wp2_with fail
  refine (PN.out _ B).mono ?_
  rintro e w1 ⟨rfl, hb1⟩
  have DR1 := DR.below hb1
  have B1 := B.trans (hb1.mono B.size)
  clear DR
  have DR2 := DR1.alloc (.cells #[.int .i64 va, .int .i64 tm, .int .i64 sr, .int .i64 sq] 51)
  have B2 := below_new B1 (.cells #[.int .i64 va, .int .i64 tm, .int .i64 sr, .int .i64 sq] 51)
  have r0 := DR2.cell 0 _ rfl
  have r1 := DR2.cell 1 _ rfl
  have r2 := DR2.cell 2 _ rfl
  have r3 := DR2.cell 3 _ rfl
  have r4 := DR2.cell 4 _ rfl
  have f0 := DR2.free 0 _ rfl
  have f1 := DR2.free 1 _ rfl
  have f2 := DR2.free 2 _ rfl
  have f3 := DR2.free 3 _ rfl
  have f4 := DR2.free 4 _ rfl
  have nr := DR2.lt
  have DN : At (w1.alloc (.cells #[.int .i64 va, .int .i64 tm, .int .i64 sr, .int .i64 sq] 51)) w1.heap.size [.int .i64 va, .int .i64 tm, .int .i64 sr, .int .i64 sq] := by have h := At.new w1 #[.int .i64 va, .int .i64 tm, .int .i64 sr, .int .i64 sq] 51; simpa using h
  have DB : Blk (w1.alloc (.cells #[.int .i64 va, .int .i64 tm, .int .i64 sr, .int .i64 sq] 51)) w.heap.size #[.slice none 0 0, .int .i64 0, .int .i64 0, .int .i64 0, .int .i64 0] 25 := blk_on (blk_on (blk_new w _ _) hb1) (below_cells _)
  go_wp2_with fail
  generalize w1.alloc (.cells #[.int .i64 va, .int .i64 tm, .int .i64 sr, .int .i64 sq] 51) = W2 at *
  refine (LP.out _ B2).mono ?_
  rintro e w2 ⟨v, rfl, hI, hb2⟩
  obtain ⟨a, n, cap, rfl⟩ : ∃ a n cap, v = .slice a n cap := by
    rcases hI with ⟨⟨_, _, rfl⟩, _⟩ | ⟨b, off, cap, rfl, _⟩
    · exact ⟨_, _, _, rfl⟩
    · exact ⟨_, _, _, rfl⟩
  have DR3 := DR2.below hb2
  have DN3 := DN.below hb2
  have B3 := B2.trans (hb2.mono B2.size)
  clear r0 r1 r2 r3 r4 f0 f1 f2 f3 f4 nr DR2 DN B2
  have m0 := DN3.cell 0 _ rfl
  have m1 := DN3.cell 1 _ rfl
  have m2 := DN3.cell 2 _ rfl
  have m3 := DN3.cell 3 _ rfl
  go_wp2_with fail
  refine (CK.out _ _ _ _ hI).mono ?_
  rintro e w3 ⟨rfl, hb3⟩
  have DR4 := DR3.below hb3
  have DN4 := DN3.below hb3
  have B4 := B3.trans (hb3.mono B3.size)
  have hI3 := labs_on hI hb3
  clear m0 m1 m2 m3 DR3 DN3 B3 hI
  have m0 := DN4.cell 0 _ rfl
  have m1 := DN4.cell 1 _ rfl
  have m2 := DN4.cell 2 _ rfl
  have m3 := DN4.cell 3 _ rfl
  have r0 := DR4.cell 0 _ rfl
  have r1 := DR4.cell 1 _ rfl
  have r2 := DR4.cell 2 _ rfl
  have r3 := DR4.cell 3 _ rfl
  have r4 := DR4.cell 4 _ rfl
  have f0 := DR4.free 0 _ rfl
  have f1 := DR4.free 1 _ rfl
  have f2 := DR4.free 2 _ rfl
  have f3 := DR4.free 3 _ rfl
  have f4 := DR4.free 4 _ rfl
  have nr := DR4.lt
  have DB4 := blk_on (blk_on DB hb2) hb3
  have HI := Lib.hid hI3
  clear hI3
  by_cases hr : r = 0
  · subst hr
    go_wp2_with fail
    have DF := (((((DR4.set 0 (.slice a n cap)).set 1 (.int .i64 va)).set 2 (.int .i64 tm)).set 3 (.int .i64 sr)).set 4 (.int .i64 sq))
    have BF := (((((B4.setCell (p := ⟨w.heap.size, 0, none⟩) (Nat.le_refl _) (.slice a n cap)).setCell (p := ⟨w.heap.size, 1, none⟩) (Nat.le_refl _) (.int .i64 va)).setCell (p := ⟨w.heap.size, 2, none⟩) (Nat.le_refl _) (.int .i64 tm)).setCell (p := ⟨w.heap.size, 3, none⟩) (Nat.le_refl _) (.int .i64 sr)).setCell (p := ⟨w.heap.size, 4, none⟩) (Nat.le_refl _) (.int .i64 sq))
    have FAR := far5 w3 w.heap.size (.slice a n cap) (.int .i64 va) (.int .i64 tm) (.int .i64 sr) (.int .i64 sq)
    have LF := labs_apart DB4 (by
      intro j s
      rcases j with _ | _ | _ | _ | _ | j
      all_goals simp) FAR.1 FAR.2 HI.out
    simp only [List.set_cons_zero, List.set_cons_succ] at DF
    (try simp only [Exit.inBlock, Exit.then])
    have q0 := DF.cell 0 _ rfl
    have q1 := DF.cell 1 _ rfl
    have q2 := DF.cell 2 _ rfl
    have q3 := DF.cell 3 _ rfl
    have q4 := DF.cell 4 _ rfl
    clear FAR m0 m1 m2 m3 r0 r1 r2 r3 r4
    refine bodyPost_ret (v := .tuple #[.agg #[(.slice a n cap), .int .i64 va, .int .i64 tm, .int .i64 sr, .int .i64 sq], .int .i64 0]) ?_ rfl ⟨⟨_, rfl, LF⟩, BF⟩
    simp [results, Tryz.f13, go_sem, q0, q1, q2, q3, q4]
  · go_wp2_with fail
    have DF := (((((DR4.set 0 (.slice none 0 0)).set 1 (.int .i64 0)).set 2 (.int .i64 0)).set 3 (.int .i64 0)).set 4 (.int .i64 0))
    have BF := (((((B4.setCell (p := ⟨w.heap.size, 0, none⟩) (Nat.le_refl _) (.slice none 0 0)).setCell (p := ⟨w.heap.size, 1, none⟩) (Nat.le_refl _) (.int .i64 0)).setCell (p := ⟨w.heap.size, 2, none⟩) (Nat.le_refl _) (.int .i64 0)).setCell (p := ⟨w.heap.size, 3, none⟩) (Nat.le_refl _) (.int .i64 0)).setCell (p := ⟨w.heap.size, 4, none⟩) (Nat.le_refl _) (.int .i64 0))
    have FAR := far5 w3 w.heap.size (.slice none 0 0) (.int .i64 0) (.int .i64 0) (.int .i64 0) (.int .i64 0)
    have LF := labs_apart DB4 (by
      intro j s
      rcases j with _ | _ | _ | _ | _ | j
      all_goals simp) FAR.1 FAR.2 HI.out
    simp only [List.set_cons_zero, List.set_cons_succ] at DF
    (try simp only [Exit.inBlock, Exit.then])
    have q0 := DF.cell 0 _ rfl
    have q1 := DF.cell 1 _ rfl
    have q2 := DF.cell 2 _ rfl
    have q3 := DF.cell 3 _ rfl
    have q4 := DF.cell 4 _ rfl
    clear FAR m0 m1 m2 m3 r0 r1 r2 r3 r4
    refine bodyPost_ret (v := .tuple #[.agg #[(.slice none 0 0), .int .i64 0, .int .i64 0, .int .i64 0, .int .i64 0], .int .i64 r]) ?_ rfl ⟨.inr ⟨hr, rfl⟩, BF⟩
    simp [results, Tryz.f13, go_sem, q0, q1, q2, q3, q4]
end Go.Proofs.YteagpkkffnehiaaGreatDoor
