/- A line's text read back: mathematics. -/
import Derived.Test.YtgldieboflmnhaaGreatDoorPNums
import Derived.Lib.LastIndexByte
namespace Go.Proofs.YtgldieboflmnhaaGreatDoor
open Go Go.Proofs Go.RowKit Go.Shelf
set_option maxRecDepth 100000
theorem dB_dig : ∀ c : UInt8, dB c = true → digS.contains c = true ∧ c ≠ 125 := by
  intro c h
  have h1 := (dB_iff c).1 h
  have key : ∀ n : Nat, n < 256 → 48 ≤ n → n ≤ 57 → digS.contains (UInt8.ofNat n) = true ∧ UInt8.ofNat n ≠ 125 := by decide
  have := key c.toNat (by omega) h1.1 h1.2
  rwa [UInt8.ofNat_toNat] at this
theorem itoa_dig (x : Int) : (Lib.itoa x).all (fun c => digS.contains c) = true ∧ ∀ c ∈ Lib.itoa x, c ≠ 125 := by
  have hd : ∀ n : Nat, (Lib.decDigits n).all (fun c => digS.contains c) = true ∧ ∀ c ∈ Lib.decDigits n, c ≠ 125 := by
    intro n
    obtain ⟨c, t, e, a, _⟩ := dec_form n
    rw [e]
    rw [List.all_eq_true] at a
    exact ⟨List.all_eq_true.2 fun x hx => (dB_dig x (a x hx)).1, fun x hx => (dB_dig x (a x hx)).2⟩
  unfold Lib.itoa
  by_cases hx : x < 0
  · rw [if_pos hx]
    refine ⟨?_, ?_⟩
    · rw [List.all_cons, (hd _).1]; rfl
    · intro c hc
      rcases List.mem_cons.1 hc with rfl | h
      · decide
      · exact (hd _).2 c h
  · rw [if_neg hx]; exact hd _
theorem tw_app (p : UInt8 → Bool) (a b : List UInt8) (ha : a.all p = true) (hb : b = [] ∨ ∃ c t, b = c :: t ∧ p c = false) : (a ++ b).dropWhile p = b := by
  induction a with
  | nil =>
    rcases hb with rfl | ⟨c, t, rfl, h⟩
    · rfl
    · rw [List.nil_append, List.dropWhile_cons, h]; rfl
  | cons x t ih =>
    rw [List.all_cons, Bool.and_eq_true] at ha
    rw [List.cons_append, List.dropWhile_cons, if_pos ha.1]
    exact ih ha.2
def Fresh6 (R : List UInt8) : Prop := R = [] ∨ ∃ c t, R = c :: t ∧ digS.contains c = false
theorem behind_own (k : Fin 4) (Y : List UInt8) : behindR k (markL k ++ Y) = Y ∧ Lib.hasPrefix (markL k ++ Y) (markL k) = true := by
  have h : Lib.hasPrefix (markL k ++ Y) (markL k) = true := by
    unfold Lib.hasPrefix; rw [List.isPrefixOf_iff_prefix]; exact List.prefix_append _ _
  refine ⟨?_, h⟩
  unfold behindR Lib.trimPrefix
  rw [if_pos h, List.drop_left]
theorem step_own (k : Fin 4) (x : Int) (hx : I64 x) (R : List UInt8) (hR : Fresh6 R) :
    okR k (markL k ++ (Lib.itoa x ++ R)) = true ∧ restR k (markL k ++ (Lib.itoa x ++ R)) = R ∧ numOf (numR k (markL k ++ (Lib.itoa x ++ R))) = x := by
  obtain ⟨h1, h2⟩ := behind_own k (Lib.itoa x ++ R)
  have h3 : restR k (markL k ++ (Lib.itoa x ++ R)) = R := by
    unfold restR; rw [h1]; unfold Lib.trimLeftS
    exact tw_app _ _ _ (itoa_dig x).1 hR
  have h4 : numR k (markL k ++ (Lib.itoa x ++ R)) = Lib.itoa x := by
    unfold numR
    rw [h3, h1, List.length_append, Nat.add_sub_cancel, List.take_left]
  have h5 : numOf (Lib.itoa x) = x := numOf_itoa x hx.1 hx.2
  refine ⟨?_, h3, ?_⟩
  · unfold okR
    rw [h2, h4, h5]; simp
  · rw [h4, h5]
/-- what stands behind the labels -/
def tailR (va tm sr sq : Int) : List UInt8 := markL 0 ++ (Lib.itoa va ++ (markL 1 ++ (Lib.itoa tm ++ (markL 2 ++ (Lib.itoa sr ++ (markL 3 ++ (Lib.itoa sq ++ [])))))))
theorem lineR_tail (zs : List SLab) (va tm sr sq : Int) : lineR zs va tm sr sq = textL zs ++ tailR va tm sr sq := by
  unfold lineR lineRun tailR
  simp only [List.foldl_cons, List.foldl_nil, List.append_assoc, List.append_nil]
  rfl
theorem fresh_mark (k : Fin 4) (Y : List UInt8) : Fresh6 (markL k ++ Y) := by
  match k with
  | 0 => exact .inr ⟨_, _, rfl, by decide⟩
  | 1 => exact .inr ⟨_, _, rfl, by decide⟩
  | 2 => exact .inr ⟨_, _, rfl, by decide⟩
  | 3 => exact .inr ⟨_, _, rfl, by decide⟩
theorem tail_run (va tm sr sq : Int) (k0 : I64 va) (k1 : I64 tm) (k2 : I64 sr) (k3 : I64 sq) :
    numsOk (tailR va tm sr sq) = true ∧ numsR (tailR va tm sr sq) = numAt va tm sr sq := by
  obtain ⟨a0, b0, c0⟩ := step_own 0 va k0 _ (fresh_mark 1 (Lib.itoa tm ++ (markL 2 ++ (Lib.itoa sr ++ (markL 3 ++ (Lib.itoa sq ++ []))))))
  obtain ⟨a1, b1, c1⟩ := step_own 1 tm k1 _ (fresh_mark 2 (Lib.itoa sr ++ (markL 3 ++ (Lib.itoa sq ++ []))))
  obtain ⟨a2, b2, c2⟩ := step_own 2 sr k2 _ (fresh_mark 3 (Lib.itoa sq ++ []))
  obtain ⟨a3, b3, c3⟩ := step_own 3 sq k3 [] (.inl rfl)
  have hall : allR (tailR va tm sr sq) [0, 1, 2, 3] = true := by
    unfold allR tailR
    simp only [allRa, pStep, a0, b0, a1, b1, a2, b2, a3, Bool.and_true]
  have hrun : pRun (tailR va tm sr sq) [0, 1, 2, 3] = (setN (setN (setN (setN (fun _ => 0) 0 va) 1 tm) 2 sr) 3 sq, []) := by
    unfold pRun tailR
    simp only [List.foldl_cons, List.foldl_nil, pStep, b0, c0, b1, c1, b2, c2, b3, c3]
  refine ⟨?_, ?_⟩
  · unfold numsOk; rw [hall, hrun]; rfl
  · unfold numsR
    rw [if_pos hall, hrun]
    funext k
    match k with
    | 0 => rfl
    | 1 => rfl
    | 2 => rfl
    | 3 => rfl
theorem tail_no (va tm sr sq : Int) : ∀ c ∈ tailR va tm sr sq, c ≠ 125 := by
  have hm : ∀ (k : Fin 4), ∀ c ∈ markL k, c ≠ 125 := by decide
  intro c hc
  unfold tailR at hc
  simp only [List.mem_append, List.append_nil] at hc
  rcases hc with h | h | h | h | h | h | h | h
  · exact hm 0 c h
  · exact (itoa_dig va).2 c h
  · exact hm 1 c h
  · exact (itoa_dig tm).2 c h
  · exact hm 2 c h
  · exact (itoa_dig sr).2 c h
  · exact hm 3 c h
  · exact (itoa_dig sq).2 c h
/-- the last place of a byte: behind it there is none -/
theorem lastb_at (A R : List UInt8) (hR : ∀ c ∈ R, c ≠ 125) : Lib.lastIndexByte ⟨(A ++ [125] ++ R).toArray⟩ 125 = (A.length : Int) := by
  unfold Lib.lastIndexByte
  have hsz : (⟨(A ++ [125] ++ R).toArray⟩ : ByteArray).size = A.length + 1 + R.length := by
    show (A ++ [125] ++ R).toArray.size = _
    simp; omega
  have at_ : ∀ j, ∀ h : j < (A ++ [125] ++ R).length, (⟨(A ++ [125] ++ R).toArray⟩ : ByteArray).data[j]! = (A ++ [125] ++ R)[j] := by
    intro j h
    show (A ++ [125] ++ R).toArray[j]! = _
    rw [getElem!_pos _ j (by simpa using h)]
    simp
  have e0 : ((⟨(A ++ [125] ++ R).toArray⟩ : ByteArray).data[A.length]!).toNat = (125 : UInt8).toNat := by
    rw [at_ A.length (by simp)]
    simp
  rcases Lib.lastIdx_spec ⟨(A ++ [125] ++ R).toArray⟩ 125 (⟨(A ++ [125] ++ R).toArray⟩ : ByteArray).size with ⟨_, h⟩ | ⟨i, h1, h2, h3, h4⟩
  · exact absurd (by rw [e0]; first | done | rfl) (h A.length (by omega))
  · rw [h2]
    congr 1
    rcases Nat.lt_trichotomy i A.length with hlt | heq | hgt
    · exact absurd (by rw [e0]; first | done | rfl) (h4 A.length hlt (by omega))
    · exact heq
    · exfalso
      have hi : i < (A ++ [125] ++ R).length := by simp; omega
      rw [at_ i hi, List.getElem_append_right (by simp; omega)] at h3
      have hj : i - (A ++ [125]).length < R.length := by simp; omega
      have h125 : ((125 : UInt8).toNat : Int) = 125 := rfl
      exact hR (R[i - (A ++ [125]).length]'hj) (List.getElem_mem _) (UInt8.toNat_inj.1 (by omega))
theorem last_line (zs : List SLab) (va tm sr sq : Int) : Lib.lastIndexByte ⟨(lineR zs va tm sr sq).toArray⟩ 125 + 1 = ((textL zs).length : Int) := by
  rw [lineR_tail]
  unfold textL
  rw [lastb_at _ _ (tail_no va tm sr sq), List.length_append]
  simp
theorem line_len (zs : List SLab) (h : zs.length ≤ 100) (va tm sr sq : Int) (k0 : I64 va) (k1 : I64 tm) (k2 : I64 sr) (k3 : I64 sq) : (lineR zs va tm sr sq).length ≤ 100000 := by
  have := (runS_len zs).1
  have l0 := Lib.itoa_length_le va k0.1 k0.2
  have l1 := Lib.itoa_length_le tm k1.1 k1.2
  have l2 := Lib.itoa_length_le sr k2.1 k2.2
  have l3 := Lib.itoa_length_le sq k3.1 k3.2
  rw [lineR_tail]
  unfold tailR textL
  simp only [List.length_append, List.length_nil, List.length_cons]
  have m0 : (markL 0).length = 1 := rfl
  have m1 : (markL 1).length = 2 := rfl
  have m2 : (markL 2).length = 2 := rfl
  have m3 : (markL 3).length = 1 := rfl
  omega
end Go.Proofs.YtgldieboflmnhaaGreatDoor
/- line.Parse: a text whose end is no numbers; one whose labels are read. -/
namespace Go.Proofs.YtgldieboflmnhaaGreatDoor
open Go Go.Proofs Go.RowKit Go.Shelf
set_option maxRecDepth 100000
attribute [local go_sem] Oper.semAt_some
set_option maxHeartbeats 4000000 in
theorem lparse_bad (l : List UInt8) (hl : l.length ≤ 100000) (k : Nat) (hk : k ≤ l.length) (hi : Lib.lastIndexByte ⟨l.toArray⟩ 125 + 1 = (k : Int)) (hno : numsOk (l.drop k) = false) (w : World) (ht : Tab w) (he : ErrsOk w) :
    Calls Tryz.prog 13 #[.string ⟨l.toArray⟩] w fun e w' => e = .returned (.tuple #[sampV (.slice none 0 0) 0 0 0 0, .int .i64 2]) ∧ Below w.heap.size w w' := by
  have LI := Lib.hid (fun W => Tryz.strings_LastIndexByte ⟨l.toArray⟩ 125 (by show l.length < _; omega) W)
  have PN := Lib.hid (fun W (hW : Below w.heap.size w W) => parseNumbers_any (l.drop k) (by rw [List.length_drop]; omega) W (ht.below hW) (he.below hW))
  rw [hno] at PN
  have hs : (⟨l.toArray⟩ : ByteArray).size = l.length := rfl
  have e2 := ext_back l k
  generalize l.drop k = R at *
  obtain ⟨n0, n1, n2, n3, hn⟩ : ∃ n0 n1 n2 n3, cellsN (numsR R) = #[.int .i64 n0, .int .i64 n1, .int .i64 n2, .int .i64 n3] := ⟨_, _, _, _, rfl⟩
  rw [hn] at PN
  clear hno hn
  have hidx : Lib.lastIndexByte ⟨l.toArray⟩ 125 = (k : Int) - 1 := by omega
  rw [hidx] at LI
  clear hi hidx
  unfold sampV
  go_enter Tryz.func13, Tryz.ntmps13
  have DR : At ((w).alloc (.cells #[.slice none 0 0, .int .i64 0, .int .i64 0, .int .i64 0, .int .i64 0] 25)) (w.heap.size) [.slice none 0 0, .int .i64 0, .int .i64 0, .int .i64 0, .int .i64 0] := by have h := (At.new (w) #[.slice none 0 0, .int .i64 0, .int .i64 0, .int .i64 0, .int .i64 0] 25); simpa using h
  have B : Below w.heap.size w ((w).alloc (.cells #[.slice none 0 0, .int .i64 0, .int .i64 0, .int .i64 0, .int .i64 0] 25)) := below_new (Below.refl _ _) _
  go_wp2_with fail
  refine (LI.out _).mono ?_
  rintro e w1 ⟨rfl, rfl⟩
  go_wp2_with fail
  refine (PN.out _ B).mono ?_
  rintro e w1 ⟨rfl, hb1⟩
  have DR1 := DR.below hb1
  have B1 := B.trans (hb1.mono B.size)
  clear DR
  have DR2 := DR1.alloc (.cells #[.int .i64 n0, .int .i64 n1, .int .i64 n2, .int .i64 n3] 51)
  have B2 := below_new B1 (.cells #[.int .i64 n0, .int .i64 n1, .int .i64 n2, .int .i64 n3] 51)
  have r0 := DR2.cell 0 _ rfl
  have r1 := DR2.cell 1 _ rfl
  have r2 := DR2.cell 2 _ rfl
  have r3 := DR2.cell 3 _ rfl
  have r4 := DR2.cell 4 _ rfl
  have f0 := DR2.free 0 _ rfl
  have f1 := DR2.free 1 _ rfl
  have f2 := DR2.free 2 _ rfl
  have f3 := DR2.free 3 _ rfl
  have f4 := DR2.free 4 _ rfl
  have nr := DR2.lt
  go_wp2_with fail
  have DF := (((((DR2.set 0 (.slice none 0 0)).set 1 (.int .i64 0)).set 2 (.int .i64 0)).set 3 (.int .i64 0)).set 4 (.int .i64 0))
  have BF := (((((B2.setCell (p := ⟨w.heap.size, 0, none⟩) (Nat.le_refl _) (.slice none 0 0)).setCell (p := ⟨w.heap.size, 1, none⟩) (Nat.le_refl _) (.int .i64 0)).setCell (p := ⟨w.heap.size, 2, none⟩) (Nat.le_refl _) (.int .i64 0)).setCell (p := ⟨w.heap.size, 3, none⟩) (Nat.le_refl _) (.int .i64 0)).setCell (p := ⟨w.heap.size, 4, none⟩) (Nat.le_refl _) (.int .i64 0))
  simp only [List.set_cons_zero, List.set_cons_succ] at DF
  (try simp only [Exit.inBlock, Exit.then])
  have q0 := DF.cell 0 _ rfl
  have q1 := DF.cell 1 _ rfl
  have q2 := DF.cell 2 _ rfl
  have q3 := DF.cell 3 _ rfl
  have q4 := DF.cell 4 _ rfl
  refine bodyPost_ret (v := .tuple #[.agg #[.slice none 0 0, .int .i64 0, .int .i64 0, .int .i64 0, .int .i64 0], .int .i64 2]) ?_ rfl ⟨rfl, BF⟩
  simp [results, Tryz.f13, go_sem, q0, q1, q2, q3, q4]
end Go.Proofs.YtgldieboflmnhaaGreatDoor
/- line.Parse of a text whose labels are read. -/
namespace Go.Proofs.YtgldieboflmnhaaGreatDoor
open Go Go.Proofs Go.RowKit Go.Shelf
set_option maxRecDepth 100000
attribute [local go_sem] Oper.semAt_some
theorem blk_cellq {W : World} {b j : Nat} {cs : Array Value} {T : TypeId} (h : Blk W b cs T) : W.cell? ⟨b, j, none⟩ = cs[j]? := by
  unfold World.cell?
  dsimp only
  rw [show W.heap[b]? = _ from h]
  rfl
/-- a row of labels lies apart from a block that holds no text -/
theorem labs_apart {W W' : World} {b0 : Nat} {cs : Array Value} {T : TypeId} {v : Value} {zs : List SLab} (hB : Blk W b0 cs T) (hcs : ∀ (j : Nat) s, cs[j]? ≠ some (.string s)) (hk : ∀ b o, b ≠ b0 → W'.cell? ⟨b, o, none⟩ = W.cell? ⟨b, o, none⟩) (hz : W.heap.size ≤ W'.heap.size) (h : Labs W.heap.size W v zs) : Labs W'.heap.size W' v zs := by
  rcases h with h | ⟨b, off, cap, e, hb, hc⟩
  · exact .inl h
  · refine .inr ⟨b, off, cap, e, Nat.lt_of_lt_of_le hb hz, fun j x hj => ?_⟩
    have h1 := hc j x hj
    have hne : b ≠ b0 := by
      rintro rfl
      have := h1.1
      rw [blk_cellq hB] at this
      exact hcs _ _ this
    exact ⟨(hk _ _ hne).trans h1.1, (hk _ _ hne).trans h1.2⟩
theorem far5 (w : World) (b0 : Nat) (x0 x1 x2 x3 x4 : Value) : (∀ b o, b ≠ b0 → (((((w.setCell ⟨b0, 0, none⟩ x0).setCell ⟨b0, 1, none⟩ x1).setCell ⟨b0, 2, none⟩ x2).setCell ⟨b0, 3, none⟩ x3).setCell ⟨b0, 4, none⟩ x4).cell? ⟨b, o, none⟩ = w.cell? ⟨b, o, none⟩) ∧ w.heap.size ≤ (((((w.setCell ⟨b0, 0, none⟩ x0).setCell ⟨b0, 1, none⟩ x1).setCell ⟨b0, 2, none⟩ x2).setCell ⟨b0, 3, none⟩ x3).setCell ⟨b0, 4, none⟩ x4).heap.size := by
  refine ⟨fun b o hne => ?_, by simp⟩
  rw [World.cell?_setCell_far _ _ _ _ (Ne.symm hne), World.cell?_setCell_far _ _ _ _ (Ne.symm hne), World.cell?_setCell_far _ _ _ _ (Ne.symm hne), World.cell?_setCell_far _ _ _ _ (Ne.symm hne), World.cell?_setCell_far _ _ _ _ (Ne.symm hne)]
set_option maxHeartbeats 4000000 in
theorem lparse_ok (l : List UInt8) (hl : l.length ≤ 100000) (k : Nat) (hk : k ≤ l.length) (hi : Lib.lastIndexByte ⟨l.toArray⟩ 125 + 1 = (k : Int)) (va tm sr sq : Int) (hok : numsOk (l.drop k) = true) (hn : numsR (l.drop k) = numAt va tm sr sq) (zs : List SLab) (hz : zs.length ≤ 100) (w : World) (ht : Tab w) (he : ErrsOk w)
    (hP : ∀ W, Below w.heap.size w W → Calls Tryz.prog 29 #[.string ⟨(l.take k).toArray⟩] W fun e w' => ∃ v, e = .returned (.tuple #[v, .int .i64 0]) ∧ Labs w'.heap.size w' v zs ∧ Below W.heap.size W w') :
    Calls Tryz.prog 13 #[.string ⟨l.toArray⟩] w fun e w' => (sampR zs tm sr sq = 0 ∧ (∃ v, e = .returned (.tuple #[sampV v va tm sr sq, .int .i64 0]) ∧ Labs w'.heap.size w' v zs) ∨ sampR zs tm sr sq ≠ 0 ∧ e = .returned (.tuple #[sampV (.slice none 0 0) 0 0 0 0, .int .i64 (sampR zs tm sr sq)])) ∧ Below w.heap.size w w' := by
  have LI := Lib.hid (fun W => Tryz.strings_LastIndexByte ⟨l.toArray⟩ 125 (by show l.length < _; omega) W)
  have PN := Lib.hid (fun W (hW : Below w.heap.size w W) => parseNumbers_any (l.drop k) (by rw [List.length_drop]; omega) W (ht.below hW) (he.below hW))
  have hcn : cellsN (numsR (l.drop k)) = #[.int .i64 va, .int .i64 tm, .int .i64 sr, .int .i64 sq] := by rw [hn]; rfl
  rw [hok, hcn] at PN
  have hs : (⟨l.toArray⟩ : ByteArray).size = l.length := rfl
  have e1 := ext_front l k
  have e2 := ext_back l k
  have LP := Lib.hid hP
  have CK := fun (a : Option Addr) (n cap : Nat) (W : World) (hI : Labs W.heap.size W (.slice a n cap) zs) => samp_any a n cap zs hz va tm sr sq W hI
  have CK := Lib.hid CK
  clear hok hcn hn hP
  generalize l.drop k = R at *
  generalize l.take k = F at *
  have hidx : Lib.lastIndexByte ⟨l.toArray⟩ 125 = (k : Int) - 1 := by omega
  rw [hidx] at LI
  clear hi hidx
  generalize hrr : sampR zs tm sr sq = r at *
  clear hrr
  unfold sampV
  go_enter Tryz.func13, Tryz.ntmps13
  have DR : At ((w).alloc (.cells #[.slice none 0 0, .int .i64 0, .int .i64 0, .int .i64 0, .int .i64 0] 25)) (w.heap.size) [.slice none 0 0, .int .i64 0, .int .i64 0, .int .i64 0, .int .i64 0] := by have h := (At.new (w) #[.slice none 0 0, .int .i64 0, .int .i64 0, .int .i64 0, .int .i64 0] 25); simpa using h
  have B : Below w.heap.size w ((w).alloc (.cells #[.slice none 0 0, .int .i64 0, .int .i64 0, .int .i64 0, .int .i64 0] 25)) := below_new (Below.refl _ _) _
  go_wp2_with fail
  refine (LI.out _).mono ?_
  rintro e w1 ⟨rfl, rfl⟩
  go_wp2_with fail
  refine (PN.out _ B).mono ?_
  rintro e w1 ⟨rfl, hb1⟩
  have DR1 := DR.below hb1
  have B1 := B.trans (hb1.mono B.size)
  clear DR
  have DR2 := DR1.alloc (.cells #[.int .i64 va, .int .i64 tm, .int .i64 sr, .int .i64 sq] 51)
  have B2 := below_new B1 (.cells #[.int .i64 va, .int .i64 tm, .int .i64 sr, .int .i64 sq] 51)
  have r0 := DR2.cell 0 _ rfl
  have r1 := DR2.cell 1 _ rfl
  have r2 := DR2.cell 2 _ rfl
  have r3 := DR2.cell 3 _ rfl
  have r4 := DR2.cell 4 _ rfl
  have f0 := DR2.free 0 _ rfl
  have f1 := DR2.free 1 _ rfl
  have f2 := DR2.free 2 _ rfl
  have f3 := DR2.free 3 _ rfl
  have f4 := DR2.free 4 _ rfl
  have nr := DR2.lt
  have DN : At (w1.alloc (.cells #[.int .i64 va, .int .i64 tm, .int .i64 sr, .int .i64 sq] 51)) w1.heap.size [.int .i64 va, .int .i64 tm, .int .i64 sr, .int .i64 sq] := by have h := At.new w1 #[.int .i64 va, .int .i64 tm, .int .i64 sr, .int .i64 sq] 51; simpa using h
  have DB : Blk (w1.alloc (.cells #[.int .i64 va, .int .i64 tm, .int .i64 sr, .int .i64 sq] 51)) w.heap.size #[.slice none 0 0, .int .i64 0, .int .i64 0, .int .i64 0, .int .i64 0] 25 := blk_on (blk_on (blk_new w _ _) hb1) (below_cells _)
  go_wp2_with fail
  generalize w1.alloc (.cells #[.int .i64 va, .int .i64 tm, .int .i64 sr, .int .i64 sq] 51) = W2 at *
  refine (LP.out _ B2).mono ?_
  rintro e w2 ⟨v, rfl, hI, hb2⟩
  obtain ⟨a, n, cap, rfl⟩ : ∃ a n cap, v = .slice a n cap := by
    rcases hI with ⟨⟨_, _, rfl⟩, _⟩ | ⟨b, off, cap, rfl, _⟩
    · exact ⟨_, _, _, rfl⟩
    · exact ⟨_, _, _, rfl⟩
  have DR3 := DR2.below hb2
  have DN3 := DN.below hb2
  have B3 := B2.trans (hb2.mono B2.size)
  clear r0 r1 r2 r3 r4 f0 f1 f2 f3 f4 nr DR2 DN B2
  have m0 := DN3.cell 0 _ rfl
  have m1 := DN3.cell 1 _ rfl
  have m2 := DN3.cell 2 _ rfl
  have m3 := DN3.cell 3 _ rfl
  go_wp2_with fail
  refine (CK.out _ _ _ _ hI).mono ?_
  rintro e w3 ⟨rfl, hb3⟩
  have DR4 := DR3.below hb3
  have DN4 := DN3.below hb3
  have B4 := B3.trans (hb3.mono B3.size)
  have hI3 := labs_on hI hb3
  clear m0 m1 m2 m3 DR3 DN3 B3 hI
  have m0 := DN4.cell 0 _ rfl
  have m1 := DN4.cell 1 _ rfl
  have m2 := DN4.cell 2 _ rfl
  have m3 := DN4.cell 3 _ rfl
  have r0 := DR4.cell 0 _ rfl
  have r1 := DR4.cell 1 _ rfl
  have r2 := DR4.cell 2 _ rfl
  have r3 := DR4.cell 3 _ rfl
  have r4 := DR4.cell 4 _ rfl
  have f0 := DR4.free 0 _ rfl
  have f1 := DR4.free 1 _ rfl
  have f2 := DR4.free 2 _ rfl
  have f3 := DR4.free 3 _ rfl
  have f4 := DR4.free 4 _ rfl
  have nr := DR4.lt
  have DB4 := blk_on (blk_on DB hb2) hb3
  have HI := Lib.hid hI3
  clear hI3
  by_cases hr : r = 0
  · subst hr
    go_wp2_with fail
    have DF := (((((DR4.set 0 (.slice a n cap)).set 1 (.int .i64 va)).set 2 (.int .i64 tm)).set 3 (.int .i64 sr)).set 4 (.int .i64 sq))
    have BF := (((((B4.setCell (p := ⟨w.heap.size, 0, none⟩) (Nat.le_refl _) (.slice a n cap)).setCell (p := ⟨w.heap.size, 1, none⟩) (Nat.le_refl _) (.int .i64 va)).setCell (p := ⟨w.heap.size, 2, none⟩) (Nat.le_refl _) (.int .i64 tm)).setCell (p := ⟨w.heap.size, 3, none⟩) (Nat.le_refl _) (.int .i64 sr)).setCell (p := ⟨w.heap.size, 4, none⟩) (Nat.le_refl _) (.int .i64 sq))
    have FAR := far5 w3 w.heap.size (.slice a n cap) (.int .i64 va) (.int .i64 tm) (.int .i64 sr) (.int .i64 sq)
    have LF := labs_apart DB4 (by
      intro j s
      rcases j with _ | _ | _ | _ | _ | j
      all_goals simp) FAR.1 FAR.2 HI.out
    simp only [List.set_cons_zero, List.set_cons_succ] at DF
    (try simp only [Exit.inBlock, Exit.then])
    have q0 := DF.cell 0 _ rfl
    have q1 := DF.cell 1 _ rfl
    have q2 := DF.cell 2 _ rfl
    have q3 := DF.cell 3 _ rfl
    have q4 := DF.cell 4 _ rfl
    clear FAR m0 m1 m2 m3 r0 r1 r2 r3 r4
    refine bodyPost_ret (v := .tuple #[.agg #[(.slice a n cap), .int .i64 va, .int .i64 tm, .int .i64 sr, .int .i64 sq], .int .i64 0]) ?_ rfl ⟨⟨_, rfl, LF⟩, BF⟩
    simp [results, Tryz.f13, go_sem, q0, q1, q2, q3, q4]
  · go_wp2_with fail
    have DF := (((((DR4.set 0 (.slice none 0 0)).set 1 (.int .i64 0)).set 2 (.int .i64 0)).set 3 (.int .i64 0)).set 4 (.int .i64 0))
    have BF := (((((B4.setCell (p := ⟨w.heap.size, 0, none⟩) (Nat.le_refl _) (.slice none 0 0)).setCell (p := ⟨w.heap.size, 1, none⟩) (Nat.le_refl _) (.int .i64 0)).setCell (p := ⟨w.heap.size, 2, none⟩) (Nat.le_refl _) (.int .i64 0)).setCell (p := ⟨w.heap.size, 3, none⟩) (Nat.le_refl _) (.int .i64 0)).setCell (p := ⟨w.heap.size, 4, none⟩) (Nat.le_refl _) (.int .i64 0))
    have FAR := far5 w3 w.heap.size (.slice none 0 0) (.int .i64 0) (.int .i64 0) (.int .i64 0) (.int .i64 0)
    have LF := labs_apart DB4 (by
      intro j s
      rcases j with _ | _ | _ | _ | _ | j
      all_goals simp) FAR.1 FAR.2 HI.out
    simp only [List.set_cons_zero, List.set_cons_succ] at DF
    (try simp only [Exit.inBlock, Exit.then])
    have q0 := DF.cell 0 _ rfl
    have q1 := DF.cell 1 _ rfl
    have q2 := DF.cell 2 _ rfl
    have q3 := DF.cell 3 _ rfl
    have q4 := DF.cell 4 _ rfl
    clear FAR m0 m1 m2 m3 r0 r1 r2 r3 r4
    refine bodyPost_ret (v := .tuple #[.agg #[(.slice none 0 0), .int .i64 0, .int .i64 0, .int .i64 0, .int .i64 0], .int .i64 r]) ?_ rfl ⟨.inr ⟨hr, rfl⟩, BF⟩
    simp [results, Tryz.f13, go_sem, q0, q1, q2, q3, q4]
end Go.Proofs.YtgldieboflmnhaaGreatDoor
