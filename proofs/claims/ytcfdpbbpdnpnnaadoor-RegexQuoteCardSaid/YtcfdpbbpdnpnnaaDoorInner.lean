/- regex's reader: inner; all of the reading. -/
import Derived.Test.YtcfdpbbpdnpnnaaDoorChoice
namespace Go.Proofs.YtcfdpbbpdnpnnaaDoor
open Go Go.Proofs Go.RowKit Go.Shelf
set_option maxRecDepth 100000
attribute [local go_sem] cell_set
set_option maxHeartbeats 4000000 in
theorem inner_z (base b g cap k : Nat) (s : ByteArray) (l : List UInt8) (n : Rx.Nt) (w : World) (R : Rd base b g cap s l k n w)  :
    Calls Tryd.prog 58 #[.pointer (some ⟨b, 0, none⟩), .int .i64 9] w (PU base b g w s l n (.bad 4 k)) := by
  have P := Kp.refl b g w
  have hl64 := R.ll
  have hkl := R.kl
  obtain ⟨hbs, hgs, hts⟩ := R.lt
  have hb1 := R.b1
  go_enter Tryd.func58, Tryd.ntmps58
  go_wp2
  have uG0 := R.lt.2.1
  have Dr : At ((w).alloc (.cells #[.int .u64 0, .int .u64 0, .int .u64 0, .int .u64 0, .int .u64 0, .int .u64 0, .int .u64 0, .int .u64 0, .bool false] 53)) (w.heap.size) [.int .u64 0, .int .u64 0, .int .u64 0, .int .u64 0, .int .u64 0, .int .u64 0, .int .u64 0, .int .u64 0, .bool false] := by have h := (At.new (w) #[.int .u64 0, .int .u64 0, .int .u64 0, .int .u64 0, .int .u64 0, .int .u64 0, .int .u64 0, .int .u64 0, .bool false] 53); simpa using h
  have R := (R.alloc (.cells #[.int .u64 0, .int .u64 0, .int .u64 0, .int .u64 0, .int .u64 0, .int .u64 0, .int .u64 0, .int .u64 0, .bool false] 53))
  have P := (P.alloc (.cells #[.int .u64 0, .int .u64 0, .int .u64 0, .int .u64 0, .int .u64 0, .int .u64 0, .int .u64 0, .int .u64 0, .bool false] 53))
  have ar0 := Dr.cell 0 _ rfl
  have zr0 := Dr.free 0 _ rfl
  have ar1 := Dr.cell 1 _ rfl
  have zr1 := Dr.free 1 _ rfl
  have ar2 := Dr.cell 2 _ rfl
  have zr2 := Dr.free 2 _ rfl
  have ar3 := Dr.cell 3 _ rfl
  have zr3 := Dr.free 3 _ rfl
  have ar4 := Dr.cell 4 _ rfl
  have zr4 := Dr.free 4 _ rfl
  have ar5 := Dr.cell 5 _ rfl
  have zr5 := Dr.free 5 _ rfl
  have ar6 := Dr.cell 6 _ rfl
  have zr6 := Dr.free 6 _ rfl
  have ar7 := Dr.cell 7 _ rfl
  have zr7 := Dr.free 7 _ rfl
  have ar8 := Dr.cell 8 _ rfl
  have zr8 := Dr.free 8 _ rfl
  have nr := Dr.lt
  have aR0 := R.cells.cell 0 _ rfl
  have aR1 := R.cells.cell 1 _ rfl
  have aR2 := R.cells.cell 2 _ rfl
  have zR1 := R.cells.free 1 _ rfl
  have zR2 := R.cells.free 2 _ rfl
  have nR := R.lt.1
  have nG := R.lt.2.1
  have kR := R.kl
  refine bodyPost_ret (v := .tuple #[.agg #[.int .u64 0, .int .u64 0, .int .u64 0, .int .u64 0, .int .u64 0, .int .u64 0, .int .u64 0, .int .u64 0, .bool false], .int .i64 4]) (by simp [results, Tryd.results58, go_sem, ar0, zr0, ar1, zr1, ar2, zr2, ar3, zr3, ar4, zr4, ar5, zr5, ar6, zr6, ar7, zr7, ar8, zr8, nr]; try rfl) rfl ?_
  exact ⟨zeroP, 4, _, _, n, _, by simp only [word_zero], ⟨rfl, rfl, Nat.le_refl _⟩, R, P⟩
set_option maxHeartbeats 4000000 in
theorem inner_b (base b g cap k : Nat) (s : ByteArray) (l : List UInt8) (n : Rx.Nt) (w : World) (R : Rd base b g cap s l k n w) (hn : n.length ≤ k + 1) (d : Int) (hd : 0 ≤ d ∧ d ≤ 8) (at_ : Nat → Rx.Res Rx.Pt) (HC : ChoiceOK base b s l (d + 1) at_) (h40 : Rx.pk l k = 40) (er i : Nat) (hr : at_ (k + 1) = .bad er i) (he : er = 2 ∨ er = 4) :
    Calls Tryd.prog 58 #[.pointer (some ⟨b, 0, none⟩), .int .i64 d] w (PU base b g w s l n (.bad er i)) := by
  have P := Kp.refl b g w
  have hl64 := R.ll
  have hkl := R.kl
  obtain ⟨hbs, hgs, hts⟩ := R.lt
  have hb1 := R.b1
  have hk := Rx.pk_lt (l := l) (k := k) (by omega)
  have HR := Lib.hid hr
  have hdg : decide (8 < d) = false := decide_eq_false (by omega)
  clear hr h40
  have hne : ((er : Int) == 0) = false := by rw [beq_eq_false_iff_ne]; omega
  have aR0 := R.cells.cell 0 _ rfl
  have aR1 := R.cells.cell 1 _ rfl
  have aR2 := R.cells.cell 2 _ rfl
  have zR1 := R.cells.free 1 _ rfl
  have zR2 := R.cells.free 2 _ rfl
  have nR := R.lt.1
  have nG := R.lt.2.1
  have kR := R.kl
  go_enter Tryd.func58, Tryd.ntmps58
  go_wp2_with fail
  clear aR0 aR1 aR2 zR1 zR2 nR nG kR
  have uG0 := R.lt.2.1
  have Dr : At (((w).setCell ⟨b, 1, none⟩ (.int .i64 ((k + 1 : Nat) : Int))).alloc (.cells #[.int .u64 0, .int .u64 0, .int .u64 0, .int .u64 0, .int .u64 0, .int .u64 0, .int .u64 0, .int .u64 0, .bool false] 53)) (w.heap.size) [.int .u64 0, .int .u64 0, .int .u64 0, .int .u64 0, .int .u64 0, .int .u64 0, .int .u64 0, .int .u64 0, .bool false] := by have h := (At.new ((w).setCell ⟨b, 1, none⟩ (.int .i64 ((k + 1 : Nat) : Int))) #[.int .u64 0, .int .u64 0, .int .u64 0, .int .u64 0, .int .u64 0, .int .u64 0, .int .u64 0, .int .u64 0, .bool false] 53); simpa using h
  have R := ((R.move (k' := k + 1) (by omega)).alloc (.cells #[.int .u64 0, .int .u64 0, .int .u64 0, .int .u64 0, .int .u64 0, .int .u64 0, .int .u64 0, .int .u64 0, .bool false] 53))
  have P := ((P.setCell (p := ⟨b, 1, none⟩) (.inr rfl) (.int .i64 ((k + 1 : Nat) : Int))).alloc (.cells #[.int .u64 0, .int .u64 0, .int .u64 0, .int .u64 0, .int .u64 0, .int .u64 0, .int .u64 0, .int .u64 0, .bool false] 53))
  have ltr := Dr.lt
  refine (HC _ _ (k + 1) n _ R (by omega)).mono ?_
  rintro e w1 ⟨x, er0, g1, cap1, n1, j0, rfl, hst, R2, K2⟩
  have hrow := K2.row
  have qr1 : g1 ≠ w.heap.size := by omega
  have Dr := Dr.kp K2 (by omega) (by omega)
  have P := P.trans K2
  have R := R2
  clear R2 K2 hrow ltr
  have ar0 := Dr.cell 0 _ rfl
  have zr0 := Dr.free 0 _ rfl
  have ar1 := Dr.cell 1 _ rfl
  have zr1 := Dr.free 1 _ rfl
  have ar2 := Dr.cell 2 _ rfl
  have zr2 := Dr.free 2 _ rfl
  have ar3 := Dr.cell 3 _ rfl
  have zr3 := Dr.free 3 _ rfl
  have ar4 := Dr.cell 4 _ rfl
  have zr4 := Dr.free 4 _ rfl
  have ar5 := Dr.cell 5 _ rfl
  have zr5 := Dr.free 5 _ rfl
  have ar6 := Dr.cell 6 _ rfl
  have zr6 := Dr.free 6 _ rfl
  have ar7 := Dr.cell 7 _ rfl
  have zr7 := Dr.free 7 _ rfl
  have ar8 := Dr.cell 8 _ rfl
  have zr8 := Dr.free 8 _ rfl
  have nr := Dr.lt
  have aR0 := R.cells.cell 0 _ rfl
  have aR1 := R.cells.cell 1 _ rfl
  have aR2 := R.cells.cell 2 _ rfl
  have zR1 := R.cells.free 1 _ rfl
  have zR2 := R.cells.free 2 _ rfl
  have nR := R.lt.1
  have nG := R.lt.2.1
  have kR := R.kl
  rw [HR.out] at hst
  obtain ⟨rfl, hji, hlen⟩ := hst
  obtain rfl : i = j0 := hji.symm
  clear ar0 zr0 ar1 zr1 ar2 zr2 ar3 zr3 ar4 zr4 ar5 zr5 ar6 zr6 ar7 zr7 ar8 zr8 nr aR0 aR1 aR2 zR1 zR2 nR nG kR
  have ar0 := Dr.cell 0 _ rfl
  have zr0 := Dr.free 0 _ rfl
  have ar1 := Dr.cell 1 _ rfl
  have zr1 := Dr.free 1 _ rfl
  have ar2 := Dr.cell 2 _ rfl
  have zr2 := Dr.free 2 _ rfl
  have ar3 := Dr.cell 3 _ rfl
  have zr3 := Dr.free 3 _ rfl
  have ar4 := Dr.cell 4 _ rfl
  have zr4 := Dr.free 4 _ rfl
  have ar5 := Dr.cell 5 _ rfl
  have zr5 := Dr.free 5 _ rfl
  have ar6 := Dr.cell 6 _ rfl
  have zr6 := Dr.free 6 _ rfl
  have ar7 := Dr.cell 7 _ rfl
  have zr7 := Dr.free 7 _ rfl
  have ar8 := Dr.cell 8 _ rfl
  have zr8 := Dr.free 8 _ rfl
  have nr := Dr.lt
  have aR0 := R.cells.cell 0 _ rfl
  have aR1 := R.cells.cell 1 _ rfl
  have aR2 := R.cells.cell 2 _ rfl
  have zR1 := R.cells.free 1 _ rfl
  have zR2 := R.cells.free 2 _ rfl
  have nR := R.lt.1
  have nG := R.lt.2.1
  have kR := R.kl
  go_upto_region 5 with (fail)
  clear ar0 zr0 ar1 zr1 ar2 zr2 ar3 zr3 ar4 zr4 ar5 zr5 ar6 zr6 ar7 zr7 ar8 zr8 nr aR0 aR1 aR2 zR1 zR2 nR nG kR
  have ur1 := Dr.lt
  have uG1 := R.lt.2.1
  have Da : At ((w1).alloc (.cells #[.int .u64 (word (x.first) 0), .int .u64 (word (x.first) 1), .int .u64 (word (x.first) 2), .int .u64 (word (x.first) 3), .int .u64 (word (x.last) 0), .int .u64 (word (x.last) 1), .int .u64 (word (x.last) 2), .int .u64 (word (x.last) 3), .bool x.none] 53)) (w1.heap.size) [.int .u64 (word (x.first) 0), .int .u64 (word (x.first) 1), .int .u64 (word (x.first) 2), .int .u64 (word (x.first) 3), .int .u64 (word (x.last) 0), .int .u64 (word (x.last) 1), .int .u64 (word (x.last) 2), .int .u64 (word (x.last) 3), .bool x.none] := by have h := (At.new (w1) #[.int .u64 (word (x.first) 0), .int .u64 (word (x.first) 1), .int .u64 (word (x.first) 2), .int .u64 (word (x.first) 3), .int .u64 (word (x.last) 0), .int .u64 (word (x.last) 1), .int .u64 (word (x.last) 2), .int .u64 (word (x.last) 3), .bool x.none] 53); simpa using h
  have Dr : At ((w1).alloc (.cells #[.int .u64 (word (x.first) 0), .int .u64 (word (x.first) 1), .int .u64 (word (x.first) 2), .int .u64 (word (x.first) 3), .int .u64 (word (x.last) 0), .int .u64 (word (x.last) 1), .int .u64 (word (x.last) 2), .int .u64 (word (x.last) 3), .bool x.none] 53)) (w.heap.size) [.int .u64 0, .int .u64 0, .int .u64 0, .int .u64 0, .int .u64 0, .int .u64 0, .int .u64 0, .int .u64 0, .bool false] := (Dr.alloc (.cells #[.int .u64 (word (x.first) 0), .int .u64 (word (x.first) 1), .int .u64 (word (x.first) 2), .int .u64 (word (x.first) 3), .int .u64 (word (x.last) 0), .int .u64 (word (x.last) 1), .int .u64 (word (x.last) 2), .int .u64 (word (x.last) 3), .bool x.none] 53))
  have R := (R.alloc (.cells #[.int .u64 (word (x.first) 0), .int .u64 (word (x.first) 1), .int .u64 (word (x.first) 2), .int .u64 (word (x.first) 3), .int .u64 (word (x.last) 0), .int .u64 (word (x.last) 1), .int .u64 (word (x.last) 2), .int .u64 (word (x.last) 3), .bool x.none] 53))
  have P := (P.alloc (.cells #[.int .u64 (word (x.first) 0), .int .u64 (word (x.first) 1), .int .u64 (word (x.first) 2), .int .u64 (word (x.first) 3), .int .u64 (word (x.last) 0), .int .u64 (word (x.last) 1), .int .u64 (word (x.last) 2), .int .u64 (word (x.last) 3), .bool x.none] 53))
  generalize (w1).alloc (.cells #[.int .u64 (word (x.first) 0), .int .u64 (word (x.first) 1), .int .u64 (word (x.first) 2), .int .u64 (word (x.first) 3), .int .u64 (word (x.last) 0), .int .u64 (word (x.last) 1), .int .u64 (word (x.last) 2), .int .u64 (word (x.last) 3), .bool x.none] 53) = w8 at *
  have ar0 := Dr.cell 0 _ rfl
  have zr0 := Dr.free 0 _ rfl
  have ar1 := Dr.cell 1 _ rfl
  have zr1 := Dr.free 1 _ rfl
  have ar2 := Dr.cell 2 _ rfl
  have zr2 := Dr.free 2 _ rfl
  have ar3 := Dr.cell 3 _ rfl
  have zr3 := Dr.free 3 _ rfl
  have ar4 := Dr.cell 4 _ rfl
  have zr4 := Dr.free 4 _ rfl
  have ar5 := Dr.cell 5 _ rfl
  have zr5 := Dr.free 5 _ rfl
  have ar6 := Dr.cell 6 _ rfl
  have zr6 := Dr.free 6 _ rfl
  have ar7 := Dr.cell 7 _ rfl
  have zr7 := Dr.free 7 _ rfl
  have ar8 := Dr.cell 8 _ rfl
  have zr8 := Dr.free 8 _ rfl
  have nr := Dr.lt
  have aa0 := Da.cell 0 _ rfl
  have za0 := Da.free 0 _ rfl
  have aa1 := Da.cell 1 _ rfl
  have za1 := Da.free 1 _ rfl
  have aa2 := Da.cell 2 _ rfl
  have za2 := Da.free 2 _ rfl
  have aa3 := Da.cell 3 _ rfl
  have za3 := Da.free 3 _ rfl
  have aa4 := Da.cell 4 _ rfl
  have za4 := Da.free 4 _ rfl
  have aa5 := Da.cell 5 _ rfl
  have za5 := Da.free 5 _ rfl
  have aa6 := Da.cell 6 _ rfl
  have za6 := Da.free 6 _ rfl
  have aa7 := Da.cell 7 _ rfl
  have za7 := Da.free 7 _ rfl
  have aa8 := Da.cell 8 _ rfl
  have za8 := Da.free 8 _ rfl
  have na := Da.lt
  have aR0 := R.cells.cell 0 _ rfl
  have aR1 := R.cells.cell 1 _ rfl
  have aR2 := R.cells.cell 2 _ rfl
  have zR1 := R.cells.free 1 _ rfl
  have zR2 := R.cells.free 2 _ rfl
  have nR := R.lt.1
  have nG := R.lt.2.1
  have kR := R.kl
  go_wp2
  clear ar0 zr0 ar1 zr1 ar2 zr2 ar3 zr3 ar4 zr4 ar5 zr5 ar6 zr6 ar7 zr7 ar8 zr8 nr aa0 za0 aa1 za1 aa2 za2 aa3 za3 aa4 za4 aa5 za5 aa6 za6 aa7 za7 aa8 za8 na aR0 aR1 aR2 zR1 zR2 nR nG kR
  have Dr : At ((((((((((w8).setCell ⟨w.heap.size, 0, none⟩ (.int .u64 (word (x.first) 0))).setCell ⟨w.heap.size, 1, none⟩ (.int .u64 (word (x.first) 1))).setCell ⟨w.heap.size, 2, none⟩ (.int .u64 (word (x.first) 2))).setCell ⟨w.heap.size, 3, none⟩ (.int .u64 (word (x.first) 3))).setCell ⟨w.heap.size, 4, none⟩ (.int .u64 (word (x.last) 0))).setCell ⟨w.heap.size, 5, none⟩ (.int .u64 (word (x.last) 1))).setCell ⟨w.heap.size, 6, none⟩ (.int .u64 (word (x.last) 2))).setCell ⟨w.heap.size, 7, none⟩ (.int .u64 (word (x.last) 3))).setCell ⟨w.heap.size, 8, none⟩ (.bool x.none)) (w.heap.size) [.int .u64 (word (x.first) 0), .int .u64 (word (x.first) 1), .int .u64 (word (x.first) 2), .int .u64 (word (x.first) 3), .int .u64 (word (x.last) 0), .int .u64 (word (x.last) 1), .int .u64 (word (x.last) 2), .int .u64 (word (x.last) 3), .bool x.none] := (((((((((Dr.set 0 (.int .u64 (word (x.first) 0))).set 1 (.int .u64 (word (x.first) 1))).set 2 (.int .u64 (word (x.first) 2))).set 3 (.int .u64 (word (x.first) 3))).set 4 (.int .u64 (word (x.last) 0))).set 5 (.int .u64 (word (x.last) 1))).set 6 (.int .u64 (word (x.last) 2))).set 7 (.int .u64 (word (x.last) 3))).set 8 (.bool x.none))
  have Da : At ((((((((((w8).setCell ⟨w.heap.size, 0, none⟩ (.int .u64 (word (x.first) 0))).setCell ⟨w.heap.size, 1, none⟩ (.int .u64 (word (x.first) 1))).setCell ⟨w.heap.size, 2, none⟩ (.int .u64 (word (x.first) 2))).setCell ⟨w.heap.size, 3, none⟩ (.int .u64 (word (x.first) 3))).setCell ⟨w.heap.size, 4, none⟩ (.int .u64 (word (x.last) 0))).setCell ⟨w.heap.size, 5, none⟩ (.int .u64 (word (x.last) 1))).setCell ⟨w.heap.size, 6, none⟩ (.int .u64 (word (x.last) 2))).setCell ⟨w.heap.size, 7, none⟩ (.int .u64 (word (x.last) 3))).setCell ⟨w.heap.size, 8, none⟩ (.bool x.none)) (w1.heap.size) [.int .u64 (word (x.first) 0), .int .u64 (word (x.first) 1), .int .u64 (word (x.first) 2), .int .u64 (word (x.first) 3), .int .u64 (word (x.last) 0), .int .u64 (word (x.last) 1), .int .u64 (word (x.last) 2), .int .u64 (word (x.last) 3), .bool x.none] := (((((((((Da.far (b' := w.heap.size) (j := 0) (by omega) (.int .u64 (word (x.first) 0))).far (b' := w.heap.size) (j := 1) (by omega) (.int .u64 (word (x.first) 1))).far (b' := w.heap.size) (j := 2) (by omega) (.int .u64 (word (x.first) 2))).far (b' := w.heap.size) (j := 3) (by omega) (.int .u64 (word (x.first) 3))).far (b' := w.heap.size) (j := 4) (by omega) (.int .u64 (word (x.last) 0))).far (b' := w.heap.size) (j := 5) (by omega) (.int .u64 (word (x.last) 1))).far (b' := w.heap.size) (j := 6) (by omega) (.int .u64 (word (x.last) 2))).far (b' := w.heap.size) (j := 7) (by omega) (.int .u64 (word (x.last) 3))).far (b' := w.heap.size) (j := 8) (by omega) (.bool x.none))
  have R := (((((((((R.far (c := w.heap.size) 0 (by omega) (by omega) (by omega) (.int .u64 (word (x.first) 0))).far (c := w.heap.size) 1 (by omega) (by omega) (by omega) (.int .u64 (word (x.first) 1))).far (c := w.heap.size) 2 (by omega) (by omega) (by omega) (.int .u64 (word (x.first) 2))).far (c := w.heap.size) 3 (by omega) (by omega) (by omega) (.int .u64 (word (x.first) 3))).far (c := w.heap.size) 4 (by omega) (by omega) (by omega) (.int .u64 (word (x.last) 0))).far (c := w.heap.size) 5 (by omega) (by omega) (by omega) (.int .u64 (word (x.last) 1))).far (c := w.heap.size) 6 (by omega) (by omega) (by omega) (.int .u64 (word (x.last) 2))).far (c := w.heap.size) 7 (by omega) (by omega) (by omega) (.int .u64 (word (x.last) 3))).far (c := w.heap.size) 8 (by omega) (by omega) (by omega) (.bool x.none))
  have P := (((((((((P.setCell (p := ⟨w.heap.size, 0, none⟩) (.inl (by dsimp only; omega)) (.int .u64 (word (x.first) 0))).setCell (p := ⟨w.heap.size, 1, none⟩) (.inl (by dsimp only; omega)) (.int .u64 (word (x.first) 1))).setCell (p := ⟨w.heap.size, 2, none⟩) (.inl (by dsimp only; omega)) (.int .u64 (word (x.first) 2))).setCell (p := ⟨w.heap.size, 3, none⟩) (.inl (by dsimp only; omega)) (.int .u64 (word (x.first) 3))).setCell (p := ⟨w.heap.size, 4, none⟩) (.inl (by dsimp only; omega)) (.int .u64 (word (x.last) 0))).setCell (p := ⟨w.heap.size, 5, none⟩) (.inl (by dsimp only; omega)) (.int .u64 (word (x.last) 1))).setCell (p := ⟨w.heap.size, 6, none⟩) (.inl (by dsimp only; omega)) (.int .u64 (word (x.last) 2))).setCell (p := ⟨w.heap.size, 7, none⟩) (.inl (by dsimp only; omega)) (.int .u64 (word (x.last) 3))).setCell (p := ⟨w.heap.size, 8, none⟩) (.inl (by dsimp only; omega)) (.bool x.none))
  have ar0 := Dr.cell 0 _ rfl
  have zr0 := Dr.free 0 _ rfl
  have ar1 := Dr.cell 1 _ rfl
  have zr1 := Dr.free 1 _ rfl
  have ar2 := Dr.cell 2 _ rfl
  have zr2 := Dr.free 2 _ rfl
  have ar3 := Dr.cell 3 _ rfl
  have zr3 := Dr.free 3 _ rfl
  have ar4 := Dr.cell 4 _ rfl
  have zr4 := Dr.free 4 _ rfl
  have ar5 := Dr.cell 5 _ rfl
  have zr5 := Dr.free 5 _ rfl
  have ar6 := Dr.cell 6 _ rfl
  have zr6 := Dr.free 6 _ rfl
  have ar7 := Dr.cell 7 _ rfl
  have zr7 := Dr.free 7 _ rfl
  have ar8 := Dr.cell 8 _ rfl
  have zr8 := Dr.free 8 _ rfl
  have nr := Dr.lt
  have aa0 := Da.cell 0 _ rfl
  have za0 := Da.free 0 _ rfl
  have aa1 := Da.cell 1 _ rfl
  have za1 := Da.free 1 _ rfl
  have aa2 := Da.cell 2 _ rfl
  have za2 := Da.free 2 _ rfl
  have aa3 := Da.cell 3 _ rfl
  have za3 := Da.free 3 _ rfl
  have aa4 := Da.cell 4 _ rfl
  have za4 := Da.free 4 _ rfl
  have aa5 := Da.cell 5 _ rfl
  have za5 := Da.free 5 _ rfl
  have aa6 := Da.cell 6 _ rfl
  have za6 := Da.free 6 _ rfl
  have aa7 := Da.cell 7 _ rfl
  have za7 := Da.free 7 _ rfl
  have aa8 := Da.cell 8 _ rfl
  have za8 := Da.free 8 _ rfl
  have na := Da.lt
  have aR0 := R.cells.cell 0 _ rfl
  have aR1 := R.cells.cell 1 _ rfl
  have aR2 := R.cells.cell 2 _ rfl
  have zR1 := R.cells.free 1 _ rfl
  have zR2 := R.cells.free 2 _ rfl
  have nR := R.lt.1
  have nG := R.lt.2.1
  have kR := R.kl
  refine bodyPost_ret (v := .tuple #[.agg #[.int .u64 (word (x.first) 0), .int .u64 (word (x.first) 1), .int .u64 (word (x.first) 2), .int .u64 (word (x.first) 3), .int .u64 (word (x.last) 0), .int .u64 (word (x.last) 1), .int .u64 (word (x.last) 2), .int .u64 (word (x.last) 3), .bool x.none], .int .i64 (er : Int)]) (by simp [results, Tryd.results58, go_sem, ar0, zr0, ar1, zr1, ar2, zr2, ar3, zr3, ar4, zr4, ar5, zr5, ar6, zr6, ar7, zr7, ar8, zr8, nr]; try rfl) rfl ?_
  exact ⟨x, (er : Int), _, _, n1, _, rfl, ⟨rfl, rfl, hlen⟩, R, P⟩
set_option maxHeartbeats 4000000 in
theorem inner_y (base b g cap k : Nat) (s : ByteArray) (l : List UInt8) (n : Rx.Nt) (w : World) (R : Rd base b g cap s l k n w) (hn : n.length ≤ k + 1) (d : Int) (hd : 0 ≤ d ∧ d ≤ 8) (at_ : Nat → Rx.Res Rx.Pt) (HC : ChoiceOK base b s l (d + 1) at_) (h40 : Rx.pk l k = 40) (p : Rx.Pt) (i : Nat) (hr : at_ (k + 1) = .ok p i) (h41 : Rx.pk l i = 41) :
    Calls Tryd.prog 58 #[.pointer (some ⟨b, 0, none⟩), .int .i64 d] w (PU base b g w s l n (.ok p (i + 1))) := by
  have P := Kp.refl b g w
  have hl64 := R.ll
  have hkl := R.kl
  obtain ⟨hbs, hgs, hts⟩ := R.lt
  have hb1 := R.b1
  have hk := Rx.pk_lt (l := l) (k := k) (by omega)
  have HR := Lib.hid hr
  have hdg : decide (8 < d) = false := decide_eq_false (by omega)
  clear hr h40
  have hi := Rx.pk_lt (l := l) (k := i) (by omega)
  have H41 := Lib.hid h41
  clear h41
  have aR0 := R.cells.cell 0 _ rfl
  have aR1 := R.cells.cell 1 _ rfl
  have aR2 := R.cells.cell 2 _ rfl
  have zR1 := R.cells.free 1 _ rfl
  have zR2 := R.cells.free 2 _ rfl
  have nR := R.lt.1
  have nG := R.lt.2.1
  have kR := R.kl
  go_enter Tryd.func58, Tryd.ntmps58
  go_wp2_with fail
  clear aR0 aR1 aR2 zR1 zR2 nR nG kR
  have uG0 := R.lt.2.1
  have Dr : At (((w).setCell ⟨b, 1, none⟩ (.int .i64 ((k + 1 : Nat) : Int))).alloc (.cells #[.int .u64 0, .int .u64 0, .int .u64 0, .int .u64 0, .int .u64 0, .int .u64 0, .int .u64 0, .int .u64 0, .bool false] 53)) (w.heap.size) [.int .u64 0, .int .u64 0, .int .u64 0, .int .u64 0, .int .u64 0, .int .u64 0, .int .u64 0, .int .u64 0, .bool false] := by have h := (At.new ((w).setCell ⟨b, 1, none⟩ (.int .i64 ((k + 1 : Nat) : Int))) #[.int .u64 0, .int .u64 0, .int .u64 0, .int .u64 0, .int .u64 0, .int .u64 0, .int .u64 0, .int .u64 0, .bool false] 53); simpa using h
  have R := ((R.move (k' := k + 1) (by omega)).alloc (.cells #[.int .u64 0, .int .u64 0, .int .u64 0, .int .u64 0, .int .u64 0, .int .u64 0, .int .u64 0, .int .u64 0, .bool false] 53))
  have P := ((P.setCell (p := ⟨b, 1, none⟩) (.inr rfl) (.int .i64 ((k + 1 : Nat) : Int))).alloc (.cells #[.int .u64 0, .int .u64 0, .int .u64 0, .int .u64 0, .int .u64 0, .int .u64 0, .int .u64 0, .int .u64 0, .bool false] 53))
  have ltr := Dr.lt
  refine (HC _ _ (k + 1) n _ R (by omega)).mono ?_
  rintro e w1 ⟨x, er0, g1, cap1, n1, j0, rfl, hst, R2, K2⟩
  have hrow := K2.row
  have qr1 : g1 ≠ w.heap.size := by omega
  have Dr := Dr.kp K2 (by omega) (by omega)
  have P := P.trans K2
  have R := R2
  clear R2 K2 hrow ltr
  have ar0 := Dr.cell 0 _ rfl
  have zr0 := Dr.free 0 _ rfl
  have ar1 := Dr.cell 1 _ rfl
  have zr1 := Dr.free 1 _ rfl
  have ar2 := Dr.cell 2 _ rfl
  have zr2 := Dr.free 2 _ rfl
  have ar3 := Dr.cell 3 _ rfl
  have zr3 := Dr.free 3 _ rfl
  have ar4 := Dr.cell 4 _ rfl
  have zr4 := Dr.free 4 _ rfl
  have ar5 := Dr.cell 5 _ rfl
  have zr5 := Dr.free 5 _ rfl
  have ar6 := Dr.cell 6 _ rfl
  have zr6 := Dr.free 6 _ rfl
  have ar7 := Dr.cell 7 _ rfl
  have zr7 := Dr.free 7 _ rfl
  have ar8 := Dr.cell 8 _ rfl
  have zr8 := Dr.free 8 _ rfl
  have nr := Dr.lt
  have aR0 := R.cells.cell 0 _ rfl
  have aR1 := R.cells.cell 1 _ rfl
  have aR2 := R.cells.cell 2 _ rfl
  have zR1 := R.cells.free 1 _ rfl
  have zR2 := R.cells.free 2 _ rfl
  have nR := R.lt.1
  have nG := R.lt.2.1
  have kR := R.kl
  rw [HR.out] at hst
  obtain ⟨hx, rfl, hji, hn1⟩ := hst
  obtain rfl : i = j0 := hji.symm
  have HX := Lib.hid hx
  have HN := Lib.hid hn1
  clear hx hn1
  clear ar0 zr0 ar1 zr1 ar2 zr2 ar3 zr3 ar4 zr4 ar5 zr5 ar6 zr6 ar7 zr7 ar8 zr8 nr aR0 aR1 aR2 zR1 zR2 nR nG kR
  have ar0 := Dr.cell 0 _ rfl
  have zr0 := Dr.free 0 _ rfl
  have ar1 := Dr.cell 1 _ rfl
  have zr1 := Dr.free 1 _ rfl
  have ar2 := Dr.cell 2 _ rfl
  have zr2 := Dr.free 2 _ rfl
  have ar3 := Dr.cell 3 _ rfl
  have zr3 := Dr.free 3 _ rfl
  have ar4 := Dr.cell 4 _ rfl
  have zr4 := Dr.free 4 _ rfl
  have ar5 := Dr.cell 5 _ rfl
  have zr5 := Dr.free 5 _ rfl
  have ar6 := Dr.cell 6 _ rfl
  have zr6 := Dr.free 6 _ rfl
  have ar7 := Dr.cell 7 _ rfl
  have zr7 := Dr.free 7 _ rfl
  have ar8 := Dr.cell 8 _ rfl
  have zr8 := Dr.free 8 _ rfl
  have nr := Dr.lt
  have aR0 := R.cells.cell 0 _ rfl
  have aR1 := R.cells.cell 1 _ rfl
  have aR2 := R.cells.cell 2 _ rfl
  have zR1 := R.cells.free 1 _ rfl
  have zR2 := R.cells.free 2 _ rfl
  have nR := R.lt.1
  have nG := R.lt.2.1
  have kR := R.kl
  go_wp2_with fail
  clear ar0 zr0 ar1 zr1 ar2 zr2 ar3 zr3 ar4 zr4 ar5 zr5 ar6 zr6 ar7 zr7 ar8 zr8 nr aR0 aR1 aR2 zR1 zR2 nR nG kR
  have ur1 := Dr.lt
  have uG1 := R.lt.2.1
  have Da : At ((w1).alloc (.cells #[.int .u64 (word (x.first) 0), .int .u64 (word (x.first) 1), .int .u64 (word (x.first) 2), .int .u64 (word (x.first) 3), .int .u64 (word (x.last) 0), .int .u64 (word (x.last) 1), .int .u64 (word (x.last) 2), .int .u64 (word (x.last) 3), .bool x.none] 53)) (w1.heap.size) [.int .u64 (word (x.first) 0), .int .u64 (word (x.first) 1), .int .u64 (word (x.first) 2), .int .u64 (word (x.first) 3), .int .u64 (word (x.last) 0), .int .u64 (word (x.last) 1), .int .u64 (word (x.last) 2), .int .u64 (word (x.last) 3), .bool x.none] := by have h := (At.new (w1) #[.int .u64 (word (x.first) 0), .int .u64 (word (x.first) 1), .int .u64 (word (x.first) 2), .int .u64 (word (x.first) 3), .int .u64 (word (x.last) 0), .int .u64 (word (x.last) 1), .int .u64 (word (x.last) 2), .int .u64 (word (x.last) 3), .bool x.none] 53); simpa using h
  have Dr : At ((w1).alloc (.cells #[.int .u64 (word (x.first) 0), .int .u64 (word (x.first) 1), .int .u64 (word (x.first) 2), .int .u64 (word (x.first) 3), .int .u64 (word (x.last) 0), .int .u64 (word (x.last) 1), .int .u64 (word (x.last) 2), .int .u64 (word (x.last) 3), .bool x.none] 53)) (w.heap.size) [.int .u64 0, .int .u64 0, .int .u64 0, .int .u64 0, .int .u64 0, .int .u64 0, .int .u64 0, .int .u64 0, .bool false] := (Dr.alloc (.cells #[.int .u64 (word (x.first) 0), .int .u64 (word (x.first) 1), .int .u64 (word (x.first) 2), .int .u64 (word (x.first) 3), .int .u64 (word (x.last) 0), .int .u64 (word (x.last) 1), .int .u64 (word (x.last) 2), .int .u64 (word (x.last) 3), .bool x.none] 53))
  have R := (R.alloc (.cells #[.int .u64 (word (x.first) 0), .int .u64 (word (x.first) 1), .int .u64 (word (x.first) 2), .int .u64 (word (x.first) 3), .int .u64 (word (x.last) 0), .int .u64 (word (x.last) 1), .int .u64 (word (x.last) 2), .int .u64 (word (x.last) 3), .bool x.none] 53))
  have P := (P.alloc (.cells #[.int .u64 (word (x.first) 0), .int .u64 (word (x.first) 1), .int .u64 (word (x.first) 2), .int .u64 (word (x.first) 3), .int .u64 (word (x.last) 0), .int .u64 (word (x.last) 1), .int .u64 (word (x.last) 2), .int .u64 (word (x.last) 3), .bool x.none] 53))
  have ltr := Dr.lt
  have lta := Da.lt
  refine (skip_yes base b _ _ i s l _ _ R 41 hi H41.out).mono ?_
  rintro e w2 ⟨g2, cap2, rfl, R2, K2⟩
  have hrow := K2.row
  have qr2 : g2 ≠ w.heap.size := by omega
  have qa2 : g2 ≠ w1.heap.size := by omega
  have Dr := Dr.kp K2 (by omega) (by omega)
  have Da := Da.kp K2 (by omega) (by omega)
  have P := P.trans K2
  have R := R2
  clear R2 K2 hrow ltr lta
  have ar0 := Dr.cell 0 _ rfl
  have zr0 := Dr.free 0 _ rfl
  have ar1 := Dr.cell 1 _ rfl
  have zr1 := Dr.free 1 _ rfl
  have ar2 := Dr.cell 2 _ rfl
  have zr2 := Dr.free 2 _ rfl
  have ar3 := Dr.cell 3 _ rfl
  have zr3 := Dr.free 3 _ rfl
  have ar4 := Dr.cell 4 _ rfl
  have zr4 := Dr.free 4 _ rfl
  have ar5 := Dr.cell 5 _ rfl
  have zr5 := Dr.free 5 _ rfl
  have ar6 := Dr.cell 6 _ rfl
  have zr6 := Dr.free 6 _ rfl
  have ar7 := Dr.cell 7 _ rfl
  have zr7 := Dr.free 7 _ rfl
  have ar8 := Dr.cell 8 _ rfl
  have zr8 := Dr.free 8 _ rfl
  have nr := Dr.lt
  have aa0 := Da.cell 0 _ rfl
  have za0 := Da.free 0 _ rfl
  have aa1 := Da.cell 1 _ rfl
  have za1 := Da.free 1 _ rfl
  have aa2 := Da.cell 2 _ rfl
  have za2 := Da.free 2 _ rfl
  have aa3 := Da.cell 3 _ rfl
  have za3 := Da.free 3 _ rfl
  have aa4 := Da.cell 4 _ rfl
  have za4 := Da.free 4 _ rfl
  have aa5 := Da.cell 5 _ rfl
  have za5 := Da.free 5 _ rfl
  have aa6 := Da.cell 6 _ rfl
  have za6 := Da.free 6 _ rfl
  have aa7 := Da.cell 7 _ rfl
  have za7 := Da.free 7 _ rfl
  have aa8 := Da.cell 8 _ rfl
  have za8 := Da.free 8 _ rfl
  have na := Da.lt
  have aR0 := R.cells.cell 0 _ rfl
  have aR1 := R.cells.cell 1 _ rfl
  have aR2 := R.cells.cell 2 _ rfl
  have zR1 := R.cells.free 1 _ rfl
  have zR2 := R.cells.free 2 _ rfl
  have nR := R.lt.1
  have nG := R.lt.2.1
  have kR := R.kl
  clear ar0 zr0 ar1 zr1 ar2 zr2 ar3 zr3 ar4 zr4 ar5 zr5 ar6 zr6 ar7 zr7 ar8 zr8 nr aa0 za0 aa1 za1 aa2 za2 aa3 za3 aa4 za4 aa5 za5 aa6 za6 aa7 za7 aa8 za8 na aR0 aR1 aR2 zR1 zR2 nR nG kR
  have ar0 := Dr.cell 0 _ rfl
  have zr0 := Dr.free 0 _ rfl
  have ar1 := Dr.cell 1 _ rfl
  have zr1 := Dr.free 1 _ rfl
  have ar2 := Dr.cell 2 _ rfl
  have zr2 := Dr.free 2 _ rfl
  have ar3 := Dr.cell 3 _ rfl
  have zr3 := Dr.free 3 _ rfl
  have ar4 := Dr.cell 4 _ rfl
  have zr4 := Dr.free 4 _ rfl
  have ar5 := Dr.cell 5 _ rfl
  have zr5 := Dr.free 5 _ rfl
  have ar6 := Dr.cell 6 _ rfl
  have zr6 := Dr.free 6 _ rfl
  have ar7 := Dr.cell 7 _ rfl
  have zr7 := Dr.free 7 _ rfl
  have ar8 := Dr.cell 8 _ rfl
  have zr8 := Dr.free 8 _ rfl
  have nr := Dr.lt
  have aa0 := Da.cell 0 _ rfl
  have za0 := Da.free 0 _ rfl
  have aa1 := Da.cell 1 _ rfl
  have za1 := Da.free 1 _ rfl
  have aa2 := Da.cell 2 _ rfl
  have za2 := Da.free 2 _ rfl
  have aa3 := Da.cell 3 _ rfl
  have za3 := Da.free 3 _ rfl
  have aa4 := Da.cell 4 _ rfl
  have za4 := Da.free 4 _ rfl
  have aa5 := Da.cell 5 _ rfl
  have za5 := Da.free 5 _ rfl
  have aa6 := Da.cell 6 _ rfl
  have za6 := Da.free 6 _ rfl
  have aa7 := Da.cell 7 _ rfl
  have za7 := Da.free 7 _ rfl
  have aa8 := Da.cell 8 _ rfl
  have za8 := Da.free 8 _ rfl
  have na := Da.lt
  have aR0 := R.cells.cell 0 _ rfl
  have aR1 := R.cells.cell 1 _ rfl
  have aR2 := R.cells.cell 2 _ rfl
  have zR1 := R.cells.free 1 _ rfl
  have zR2 := R.cells.free 2 _ rfl
  have nR := R.lt.1
  have nG := R.lt.2.1
  have kR := R.kl
  go_wp2
  clear ar0 zr0 ar1 zr1 ar2 zr2 ar3 zr3 ar4 zr4 ar5 zr5 ar6 zr6 ar7 zr7 ar8 zr8 nr aa0 za0 aa1 za1 aa2 za2 aa3 za3 aa4 za4 aa5 za5 aa6 za6 aa7 za7 aa8 za8 na aR0 aR1 aR2 zR1 zR2 nR nG kR
  have Dr : At ((((((((((w2).setCell ⟨w.heap.size, 0, none⟩ (.int .u64 (word (x.first) 0))).setCell ⟨w.heap.size, 1, none⟩ (.int .u64 (word (x.first) 1))).setCell ⟨w.heap.size, 2, none⟩ (.int .u64 (word (x.first) 2))).setCell ⟨w.heap.size, 3, none⟩ (.int .u64 (word (x.first) 3))).setCell ⟨w.heap.size, 4, none⟩ (.int .u64 (word (x.last) 0))).setCell ⟨w.heap.size, 5, none⟩ (.int .u64 (word (x.last) 1))).setCell ⟨w.heap.size, 6, none⟩ (.int .u64 (word (x.last) 2))).setCell ⟨w.heap.size, 7, none⟩ (.int .u64 (word (x.last) 3))).setCell ⟨w.heap.size, 8, none⟩ (.bool x.none)) (w.heap.size) [.int .u64 (word (x.first) 0), .int .u64 (word (x.first) 1), .int .u64 (word (x.first) 2), .int .u64 (word (x.first) 3), .int .u64 (word (x.last) 0), .int .u64 (word (x.last) 1), .int .u64 (word (x.last) 2), .int .u64 (word (x.last) 3), .bool x.none] := (((((((((Dr.set 0 (.int .u64 (word (x.first) 0))).set 1 (.int .u64 (word (x.first) 1))).set 2 (.int .u64 (word (x.first) 2))).set 3 (.int .u64 (word (x.first) 3))).set 4 (.int .u64 (word (x.last) 0))).set 5 (.int .u64 (word (x.last) 1))).set 6 (.int .u64 (word (x.last) 2))).set 7 (.int .u64 (word (x.last) 3))).set 8 (.bool x.none))
  have Da : At ((((((((((w2).setCell ⟨w.heap.size, 0, none⟩ (.int .u64 (word (x.first) 0))).setCell ⟨w.heap.size, 1, none⟩ (.int .u64 (word (x.first) 1))).setCell ⟨w.heap.size, 2, none⟩ (.int .u64 (word (x.first) 2))).setCell ⟨w.heap.size, 3, none⟩ (.int .u64 (word (x.first) 3))).setCell ⟨w.heap.size, 4, none⟩ (.int .u64 (word (x.last) 0))).setCell ⟨w.heap.size, 5, none⟩ (.int .u64 (word (x.last) 1))).setCell ⟨w.heap.size, 6, none⟩ (.int .u64 (word (x.last) 2))).setCell ⟨w.heap.size, 7, none⟩ (.int .u64 (word (x.last) 3))).setCell ⟨w.heap.size, 8, none⟩ (.bool x.none)) (w1.heap.size) [.int .u64 (word (x.first) 0), .int .u64 (word (x.first) 1), .int .u64 (word (x.first) 2), .int .u64 (word (x.first) 3), .int .u64 (word (x.last) 0), .int .u64 (word (x.last) 1), .int .u64 (word (x.last) 2), .int .u64 (word (x.last) 3), .bool x.none] := (((((((((Da.far (b' := w.heap.size) (j := 0) (by omega) (.int .u64 (word (x.first) 0))).far (b' := w.heap.size) (j := 1) (by omega) (.int .u64 (word (x.first) 1))).far (b' := w.heap.size) (j := 2) (by omega) (.int .u64 (word (x.first) 2))).far (b' := w.heap.size) (j := 3) (by omega) (.int .u64 (word (x.first) 3))).far (b' := w.heap.size) (j := 4) (by omega) (.int .u64 (word (x.last) 0))).far (b' := w.heap.size) (j := 5) (by omega) (.int .u64 (word (x.last) 1))).far (b' := w.heap.size) (j := 6) (by omega) (.int .u64 (word (x.last) 2))).far (b' := w.heap.size) (j := 7) (by omega) (.int .u64 (word (x.last) 3))).far (b' := w.heap.size) (j := 8) (by omega) (.bool x.none))
  have R := (((((((((R.far (c := w.heap.size) 0 (by omega) (by omega) (by omega) (.int .u64 (word (x.first) 0))).far (c := w.heap.size) 1 (by omega) (by omega) (by omega) (.int .u64 (word (x.first) 1))).far (c := w.heap.size) 2 (by omega) (by omega) (by omega) (.int .u64 (word (x.first) 2))).far (c := w.heap.size) 3 (by omega) (by omega) (by omega) (.int .u64 (word (x.first) 3))).far (c := w.heap.size) 4 (by omega) (by omega) (by omega) (.int .u64 (word (x.last) 0))).far (c := w.heap.size) 5 (by omega) (by omega) (by omega) (.int .u64 (word (x.last) 1))).far (c := w.heap.size) 6 (by omega) (by omega) (by omega) (.int .u64 (word (x.last) 2))).far (c := w.heap.size) 7 (by omega) (by omega) (by omega) (.int .u64 (word (x.last) 3))).far (c := w.heap.size) 8 (by omega) (by omega) (by omega) (.bool x.none))
  have P := (((((((((P.setCell (p := ⟨w.heap.size, 0, none⟩) (.inl (by dsimp only; omega)) (.int .u64 (word (x.first) 0))).setCell (p := ⟨w.heap.size, 1, none⟩) (.inl (by dsimp only; omega)) (.int .u64 (word (x.first) 1))).setCell (p := ⟨w.heap.size, 2, none⟩) (.inl (by dsimp only; omega)) (.int .u64 (word (x.first) 2))).setCell (p := ⟨w.heap.size, 3, none⟩) (.inl (by dsimp only; omega)) (.int .u64 (word (x.first) 3))).setCell (p := ⟨w.heap.size, 4, none⟩) (.inl (by dsimp only; omega)) (.int .u64 (word (x.last) 0))).setCell (p := ⟨w.heap.size, 5, none⟩) (.inl (by dsimp only; omega)) (.int .u64 (word (x.last) 1))).setCell (p := ⟨w.heap.size, 6, none⟩) (.inl (by dsimp only; omega)) (.int .u64 (word (x.last) 2))).setCell (p := ⟨w.heap.size, 7, none⟩) (.inl (by dsimp only; omega)) (.int .u64 (word (x.last) 3))).setCell (p := ⟨w.heap.size, 8, none⟩) (.inl (by dsimp only; omega)) (.bool x.none))
  have ar0 := Dr.cell 0 _ rfl
  have zr0 := Dr.free 0 _ rfl
  have ar1 := Dr.cell 1 _ rfl
  have zr1 := Dr.free 1 _ rfl
  have ar2 := Dr.cell 2 _ rfl
  have zr2 := Dr.free 2 _ rfl
  have ar3 := Dr.cell 3 _ rfl
  have zr3 := Dr.free 3 _ rfl
  have ar4 := Dr.cell 4 _ rfl
  have zr4 := Dr.free 4 _ rfl
  have ar5 := Dr.cell 5 _ rfl
  have zr5 := Dr.free 5 _ rfl
  have ar6 := Dr.cell 6 _ rfl
  have zr6 := Dr.free 6 _ rfl
  have ar7 := Dr.cell 7 _ rfl
  have zr7 := Dr.free 7 _ rfl
  have ar8 := Dr.cell 8 _ rfl
  have zr8 := Dr.free 8 _ rfl
  have nr := Dr.lt
  have aa0 := Da.cell 0 _ rfl
  have za0 := Da.free 0 _ rfl
  have aa1 := Da.cell 1 _ rfl
  have za1 := Da.free 1 _ rfl
  have aa2 := Da.cell 2 _ rfl
  have za2 := Da.free 2 _ rfl
  have aa3 := Da.cell 3 _ rfl
  have za3 := Da.free 3 _ rfl
  have aa4 := Da.cell 4 _ rfl
  have za4 := Da.free 4 _ rfl
  have aa5 := Da.cell 5 _ rfl
  have za5 := Da.free 5 _ rfl
  have aa6 := Da.cell 6 _ rfl
  have za6 := Da.free 6 _ rfl
  have aa7 := Da.cell 7 _ rfl
  have za7 := Da.free 7 _ rfl
  have aa8 := Da.cell 8 _ rfl
  have za8 := Da.free 8 _ rfl
  have na := Da.lt
  have aR0 := R.cells.cell 0 _ rfl
  have aR1 := R.cells.cell 1 _ rfl
  have aR2 := R.cells.cell 2 _ rfl
  have zR1 := R.cells.free 1 _ rfl
  have zR2 := R.cells.free 2 _ rfl
  have nR := R.lt.1
  have nG := R.lt.2.1
  have kR := R.kl
  refine bodyPost_ret (v := .tuple #[.agg #[.int .u64 (word (x.first) 0), .int .u64 (word (x.first) 1), .int .u64 (word (x.first) 2), .int .u64 (word (x.first) 3), .int .u64 (word (x.last) 0), .int .u64 (word (x.last) 1), .int .u64 (word (x.last) 2), .int .u64 (word (x.last) 3), .bool x.none], .int .i64 0]) (by simp [results, Tryd.results58, go_sem, ar0, zr0, ar1, zr1, ar2, zr2, ar3, zr3, ar4, zr4, ar5, zr5, ar6, zr6, ar7, zr7, ar8, zr8, nr]; try rfl) rfl ?_
  exact ⟨x, 0, _, _, n1, _, rfl, ⟨HX.out, rfl, rfl, HN.out⟩, R, P⟩
set_option maxHeartbeats 4000000 in
theorem inner_n (base b g cap k : Nat) (s : ByteArray) (l : List UInt8) (n : Rx.Nt) (w : World) (R : Rd base b g cap s l k n w) (hn : n.length ≤ k + 1) (d : Int) (hd : 0 ≤ d ∧ d ≤ 8) (at_ : Nat → Rx.Res Rx.Pt) (HC : ChoiceOK base b s l (d + 1) at_) (h40 : Rx.pk l k = 40) (p : Rx.Pt) (i : Nat) (hr : at_ (k + 1) = .ok p i) (h41 : Rx.pk l i ≠ 41) :
    Calls Tryd.prog 58 #[.pointer (some ⟨b, 0, none⟩), .int .i64 d] w (PU base b g w s l n (.bad 2 i)) := by
  have P := Kp.refl b g w
  have hl64 := R.ll
  have hkl := R.kl
  obtain ⟨hbs, hgs, hts⟩ := R.lt
  have hb1 := R.b1
  have hk := Rx.pk_lt (l := l) (k := k) (by omega)
  have HR := Lib.hid hr
  have hdg : decide (8 < d) = false := decide_eq_false (by omega)
  clear hr h40
  have H41 := Lib.hid h41
  clear h41
  have aR0 := R.cells.cell 0 _ rfl
  have aR1 := R.cells.cell 1 _ rfl
  have aR2 := R.cells.cell 2 _ rfl
  have zR1 := R.cells.free 1 _ rfl
  have zR2 := R.cells.free 2 _ rfl
  have nR := R.lt.1
  have nG := R.lt.2.1
  have kR := R.kl
  go_enter Tryd.func58, Tryd.ntmps58
  go_wp2_with fail
  clear aR0 aR1 aR2 zR1 zR2 nR nG kR
  have uG0 := R.lt.2.1
  have Dr : At (((w).setCell ⟨b, 1, none⟩ (.int .i64 ((k + 1 : Nat) : Int))).alloc (.cells #[.int .u64 0, .int .u64 0, .int .u64 0, .int .u64 0, .int .u64 0, .int .u64 0, .int .u64 0, .int .u64 0, .bool false] 53)) (w.heap.size) [.int .u64 0, .int .u64 0, .int .u64 0, .int .u64 0, .int .u64 0, .int .u64 0, .int .u64 0, .int .u64 0, .bool false] := by have h := (At.new ((w).setCell ⟨b, 1, none⟩ (.int .i64 ((k + 1 : Nat) : Int))) #[.int .u64 0, .int .u64 0, .int .u64 0, .int .u64 0, .int .u64 0, .int .u64 0, .int .u64 0, .int .u64 0, .bool false] 53); simpa using h
  have R := ((R.move (k' := k + 1) (by omega)).alloc (.cells #[.int .u64 0, .int .u64 0, .int .u64 0, .int .u64 0, .int .u64 0, .int .u64 0, .int .u64 0, .int .u64 0, .bool false] 53))
  have P := ((P.setCell (p := ⟨b, 1, none⟩) (.inr rfl) (.int .i64 ((k + 1 : Nat) : Int))).alloc (.cells #[.int .u64 0, .int .u64 0, .int .u64 0, .int .u64 0, .int .u64 0, .int .u64 0, .int .u64 0, .int .u64 0, .bool false] 53))
  have ltr := Dr.lt
  refine (HC _ _ (k + 1) n _ R (by omega)).mono ?_
  rintro e w1 ⟨x, er0, g1, cap1, n1, j0, rfl, hst, R2, K2⟩
  have hrow := K2.row
  have qr1 : g1 ≠ w.heap.size := by omega
  have Dr := Dr.kp K2 (by omega) (by omega)
  have P := P.trans K2
  have R := R2
  clear R2 K2 hrow ltr
  have ar0 := Dr.cell 0 _ rfl
  have zr0 := Dr.free 0 _ rfl
  have ar1 := Dr.cell 1 _ rfl
  have zr1 := Dr.free 1 _ rfl
  have ar2 := Dr.cell 2 _ rfl
  have zr2 := Dr.free 2 _ rfl
  have ar3 := Dr.cell 3 _ rfl
  have zr3 := Dr.free 3 _ rfl
  have ar4 := Dr.cell 4 _ rfl
  have zr4 := Dr.free 4 _ rfl
  have ar5 := Dr.cell 5 _ rfl
  have zr5 := Dr.free 5 _ rfl
  have ar6 := Dr.cell 6 _ rfl
  have zr6 := Dr.free 6 _ rfl
  have ar7 := Dr.cell 7 _ rfl
  have zr7 := Dr.free 7 _ rfl
  have ar8 := Dr.cell 8 _ rfl
  have zr8 := Dr.free 8 _ rfl
  have nr := Dr.lt
  have aR0 := R.cells.cell 0 _ rfl
  have aR1 := R.cells.cell 1 _ rfl
  have aR2 := R.cells.cell 2 _ rfl
  have zR1 := R.cells.free 1 _ rfl
  have zR2 := R.cells.free 2 _ rfl
  have nR := R.lt.1
  have nG := R.lt.2.1
  have kR := R.kl
  rw [HR.out] at hst
  obtain ⟨hx, rfl, hji, hn1⟩ := hst
  obtain rfl : i = j0 := hji.symm
  have HX := Lib.hid hx
  have HN := Lib.hid hn1
  clear hx hn1
  clear ar0 zr0 ar1 zr1 ar2 zr2 ar3 zr3 ar4 zr4 ar5 zr5 ar6 zr6 ar7 zr7 ar8 zr8 nr aR0 aR1 aR2 zR1 zR2 nR nG kR
  have ar0 := Dr.cell 0 _ rfl
  have zr0 := Dr.free 0 _ rfl
  have ar1 := Dr.cell 1 _ rfl
  have zr1 := Dr.free 1 _ rfl
  have ar2 := Dr.cell 2 _ rfl
  have zr2 := Dr.free 2 _ rfl
  have ar3 := Dr.cell 3 _ rfl
  have zr3 := Dr.free 3 _ rfl
  have ar4 := Dr.cell 4 _ rfl
  have zr4 := Dr.free 4 _ rfl
  have ar5 := Dr.cell 5 _ rfl
  have zr5 := Dr.free 5 _ rfl
  have ar6 := Dr.cell 6 _ rfl
  have zr6 := Dr.free 6 _ rfl
  have ar7 := Dr.cell 7 _ rfl
  have zr7 := Dr.free 7 _ rfl
  have ar8 := Dr.cell 8 _ rfl
  have zr8 := Dr.free 8 _ rfl
  have nr := Dr.lt
  have aR0 := R.cells.cell 0 _ rfl
  have aR1 := R.cells.cell 1 _ rfl
  have aR2 := R.cells.cell 2 _ rfl
  have zR1 := R.cells.free 1 _ rfl
  have zR2 := R.cells.free 2 _ rfl
  have nR := R.lt.1
  have nG := R.lt.2.1
  have kR := R.kl
  go_wp2_with fail
  clear ar0 zr0 ar1 zr1 ar2 zr2 ar3 zr3 ar4 zr4 ar5 zr5 ar6 zr6 ar7 zr7 ar8 zr8 nr aR0 aR1 aR2 zR1 zR2 nR nG kR
  have ur1 := Dr.lt
  have uG1 := R.lt.2.1
  have Da : At ((w1).alloc (.cells #[.int .u64 (word (x.first) 0), .int .u64 (word (x.first) 1), .int .u64 (word (x.first) 2), .int .u64 (word (x.first) 3), .int .u64 (word (x.last) 0), .int .u64 (word (x.last) 1), .int .u64 (word (x.last) 2), .int .u64 (word (x.last) 3), .bool x.none] 53)) (w1.heap.size) [.int .u64 (word (x.first) 0), .int .u64 (word (x.first) 1), .int .u64 (word (x.first) 2), .int .u64 (word (x.first) 3), .int .u64 (word (x.last) 0), .int .u64 (word (x.last) 1), .int .u64 (word (x.last) 2), .int .u64 (word (x.last) 3), .bool x.none] := by have h := (At.new (w1) #[.int .u64 (word (x.first) 0), .int .u64 (word (x.first) 1), .int .u64 (word (x.first) 2), .int .u64 (word (x.first) 3), .int .u64 (word (x.last) 0), .int .u64 (word (x.last) 1), .int .u64 (word (x.last) 2), .int .u64 (word (x.last) 3), .bool x.none] 53); simpa using h
  have Dr : At ((w1).alloc (.cells #[.int .u64 (word (x.first) 0), .int .u64 (word (x.first) 1), .int .u64 (word (x.first) 2), .int .u64 (word (x.first) 3), .int .u64 (word (x.last) 0), .int .u64 (word (x.last) 1), .int .u64 (word (x.last) 2), .int .u64 (word (x.last) 3), .bool x.none] 53)) (w.heap.size) [.int .u64 0, .int .u64 0, .int .u64 0, .int .u64 0, .int .u64 0, .int .u64 0, .int .u64 0, .int .u64 0, .bool false] := (Dr.alloc (.cells #[.int .u64 (word (x.first) 0), .int .u64 (word (x.first) 1), .int .u64 (word (x.first) 2), .int .u64 (word (x.first) 3), .int .u64 (word (x.last) 0), .int .u64 (word (x.last) 1), .int .u64 (word (x.last) 2), .int .u64 (word (x.last) 3), .bool x.none] 53))
  have R := (R.alloc (.cells #[.int .u64 (word (x.first) 0), .int .u64 (word (x.first) 1), .int .u64 (word (x.first) 2), .int .u64 (word (x.first) 3), .int .u64 (word (x.last) 0), .int .u64 (word (x.last) 1), .int .u64 (word (x.last) 2), .int .u64 (word (x.last) 3), .bool x.none] 53))
  have P := (P.alloc (.cells #[.int .u64 (word (x.first) 0), .int .u64 (word (x.first) 1), .int .u64 (word (x.first) 2), .int .u64 (word (x.first) 3), .int .u64 (word (x.last) 0), .int .u64 (word (x.last) 1), .int .u64 (word (x.last) 2), .int .u64 (word (x.last) 3), .bool x.none] 53))
  refine (skip_no base b _ _ i s l _ _ R 41 H41.out).mono ?_
  rintro e w2 ⟨rfl, hb2⟩
  have Dr := Dr.below hb2
  have Da := Da.below hb2
  have R := R.below hb2
  have P := P.below hb2
  clear hb2
  have ar0 := Dr.cell 0 _ rfl
  have zr0 := Dr.free 0 _ rfl
  have ar1 := Dr.cell 1 _ rfl
  have zr1 := Dr.free 1 _ rfl
  have ar2 := Dr.cell 2 _ rfl
  have zr2 := Dr.free 2 _ rfl
  have ar3 := Dr.cell 3 _ rfl
  have zr3 := Dr.free 3 _ rfl
  have ar4 := Dr.cell 4 _ rfl
  have zr4 := Dr.free 4 _ rfl
  have ar5 := Dr.cell 5 _ rfl
  have zr5 := Dr.free 5 _ rfl
  have ar6 := Dr.cell 6 _ rfl
  have zr6 := Dr.free 6 _ rfl
  have ar7 := Dr.cell 7 _ rfl
  have zr7 := Dr.free 7 _ rfl
  have ar8 := Dr.cell 8 _ rfl
  have zr8 := Dr.free 8 _ rfl
  have nr := Dr.lt
  have aa0 := Da.cell 0 _ rfl
  have za0 := Da.free 0 _ rfl
  have aa1 := Da.cell 1 _ rfl
  have za1 := Da.free 1 _ rfl
  have aa2 := Da.cell 2 _ rfl
  have za2 := Da.free 2 _ rfl
  have aa3 := Da.cell 3 _ rfl
  have za3 := Da.free 3 _ rfl
  have aa4 := Da.cell 4 _ rfl
  have za4 := Da.free 4 _ rfl
  have aa5 := Da.cell 5 _ rfl
  have za5 := Da.free 5 _ rfl
  have aa6 := Da.cell 6 _ rfl
  have za6 := Da.free 6 _ rfl
  have aa7 := Da.cell 7 _ rfl
  have za7 := Da.free 7 _ rfl
  have aa8 := Da.cell 8 _ rfl
  have za8 := Da.free 8 _ rfl
  have na := Da.lt
  have aR0 := R.cells.cell 0 _ rfl
  have aR1 := R.cells.cell 1 _ rfl
  have aR2 := R.cells.cell 2 _ rfl
  have zR1 := R.cells.free 1 _ rfl
  have zR2 := R.cells.free 2 _ rfl
  have nR := R.lt.1
  have nG := R.lt.2.1
  have kR := R.kl
  clear ar0 zr0 ar1 zr1 ar2 zr2 ar3 zr3 ar4 zr4 ar5 zr5 ar6 zr6 ar7 zr7 ar8 zr8 nr aa0 za0 aa1 za1 aa2 za2 aa3 za3 aa4 za4 aa5 za5 aa6 za6 aa7 za7 aa8 za8 na aR0 aR1 aR2 zR1 zR2 nR nG kR
  have ar0 := Dr.cell 0 _ rfl
  have zr0 := Dr.free 0 _ rfl
  have ar1 := Dr.cell 1 _ rfl
  have zr1 := Dr.free 1 _ rfl
  have ar2 := Dr.cell 2 _ rfl
  have zr2 := Dr.free 2 _ rfl
  have ar3 := Dr.cell 3 _ rfl
  have zr3 := Dr.free 3 _ rfl
  have ar4 := Dr.cell 4 _ rfl
  have zr4 := Dr.free 4 _ rfl
  have ar5 := Dr.cell 5 _ rfl
  have zr5 := Dr.free 5 _ rfl
  have ar6 := Dr.cell 6 _ rfl
  have zr6 := Dr.free 6 _ rfl
  have ar7 := Dr.cell 7 _ rfl
  have zr7 := Dr.free 7 _ rfl
  have ar8 := Dr.cell 8 _ rfl
  have zr8 := Dr.free 8 _ rfl
  have nr := Dr.lt
  have aa0 := Da.cell 0 _ rfl
  have za0 := Da.free 0 _ rfl
  have aa1 := Da.cell 1 _ rfl
  have za1 := Da.free 1 _ rfl
  have aa2 := Da.cell 2 _ rfl
  have za2 := Da.free 2 _ rfl
  have aa3 := Da.cell 3 _ rfl
  have za3 := Da.free 3 _ rfl
  have aa4 := Da.cell 4 _ rfl
  have za4 := Da.free 4 _ rfl
  have aa5 := Da.cell 5 _ rfl
  have za5 := Da.free 5 _ rfl
  have aa6 := Da.cell 6 _ rfl
  have za6 := Da.free 6 _ rfl
  have aa7 := Da.cell 7 _ rfl
  have za7 := Da.free 7 _ rfl
  have aa8 := Da.cell 8 _ rfl
  have za8 := Da.free 8 _ rfl
  have na := Da.lt
  have aR0 := R.cells.cell 0 _ rfl
  have aR1 := R.cells.cell 1 _ rfl
  have aR2 := R.cells.cell 2 _ rfl
  have zR1 := R.cells.free 1 _ rfl
  have zR2 := R.cells.free 2 _ rfl
  have nR := R.lt.1
  have nG := R.lt.2.1
  have kR := R.kl
  go_wp2
  clear ar0 zr0 ar1 zr1 ar2 zr2 ar3 zr3 ar4 zr4 ar5 zr5 ar6 zr6 ar7 zr7 ar8 zr8 nr aa0 za0 aa1 za1 aa2 za2 aa3 za3 aa4 za4 aa5 za5 aa6 za6 aa7 za7 aa8 za8 na aR0 aR1 aR2 zR1 zR2 nR nG kR
  have Dr : At ((((((((((w2).setCell ⟨w.heap.size, 0, none⟩ (.int .u64 0)).setCell ⟨w.heap.size, 1, none⟩ (.int .u64 0)).setCell ⟨w.heap.size, 2, none⟩ (.int .u64 0)).setCell ⟨w.heap.size, 3, none⟩ (.int .u64 0)).setCell ⟨w.heap.size, 4, none⟩ (.int .u64 0)).setCell ⟨w.heap.size, 5, none⟩ (.int .u64 0)).setCell ⟨w.heap.size, 6, none⟩ (.int .u64 0)).setCell ⟨w.heap.size, 7, none⟩ (.int .u64 0)).setCell ⟨w.heap.size, 8, none⟩ (.bool false)) (w.heap.size) [.int .u64 0, .int .u64 0, .int .u64 0, .int .u64 0, .int .u64 0, .int .u64 0, .int .u64 0, .int .u64 0, .bool false] := (((((((((Dr.set 0 (.int .u64 0)).set 1 (.int .u64 0)).set 2 (.int .u64 0)).set 3 (.int .u64 0)).set 4 (.int .u64 0)).set 5 (.int .u64 0)).set 6 (.int .u64 0)).set 7 (.int .u64 0)).set 8 (.bool false))
  have Da : At ((((((((((w2).setCell ⟨w.heap.size, 0, none⟩ (.int .u64 0)).setCell ⟨w.heap.size, 1, none⟩ (.int .u64 0)).setCell ⟨w.heap.size, 2, none⟩ (.int .u64 0)).setCell ⟨w.heap.size, 3, none⟩ (.int .u64 0)).setCell ⟨w.heap.size, 4, none⟩ (.int .u64 0)).setCell ⟨w.heap.size, 5, none⟩ (.int .u64 0)).setCell ⟨w.heap.size, 6, none⟩ (.int .u64 0)).setCell ⟨w.heap.size, 7, none⟩ (.int .u64 0)).setCell ⟨w.heap.size, 8, none⟩ (.bool false)) (w1.heap.size) [.int .u64 (word (x.first) 0), .int .u64 (word (x.first) 1), .int .u64 (word (x.first) 2), .int .u64 (word (x.first) 3), .int .u64 (word (x.last) 0), .int .u64 (word (x.last) 1), .int .u64 (word (x.last) 2), .int .u64 (word (x.last) 3), .bool x.none] := (((((((((Da.far (b' := w.heap.size) (j := 0) (by omega) (.int .u64 0)).far (b' := w.heap.size) (j := 1) (by omega) (.int .u64 0)).far (b' := w.heap.size) (j := 2) (by omega) (.int .u64 0)).far (b' := w.heap.size) (j := 3) (by omega) (.int .u64 0)).far (b' := w.heap.size) (j := 4) (by omega) (.int .u64 0)).far (b' := w.heap.size) (j := 5) (by omega) (.int .u64 0)).far (b' := w.heap.size) (j := 6) (by omega) (.int .u64 0)).far (b' := w.heap.size) (j := 7) (by omega) (.int .u64 0)).far (b' := w.heap.size) (j := 8) (by omega) (.bool false))
  have R := (((((((((R.far (c := w.heap.size) 0 (by omega) (by omega) (by omega) (.int .u64 0)).far (c := w.heap.size) 1 (by omega) (by omega) (by omega) (.int .u64 0)).far (c := w.heap.size) 2 (by omega) (by omega) (by omega) (.int .u64 0)).far (c := w.heap.size) 3 (by omega) (by omega) (by omega) (.int .u64 0)).far (c := w.heap.size) 4 (by omega) (by omega) (by omega) (.int .u64 0)).far (c := w.heap.size) 5 (by omega) (by omega) (by omega) (.int .u64 0)).far (c := w.heap.size) 6 (by omega) (by omega) (by omega) (.int .u64 0)).far (c := w.heap.size) 7 (by omega) (by omega) (by omega) (.int .u64 0)).far (c := w.heap.size) 8 (by omega) (by omega) (by omega) (.bool false))
  have P := (((((((((P.setCell (p := ⟨w.heap.size, 0, none⟩) (.inl (by dsimp only; omega)) (.int .u64 0)).setCell (p := ⟨w.heap.size, 1, none⟩) (.inl (by dsimp only; omega)) (.int .u64 0)).setCell (p := ⟨w.heap.size, 2, none⟩) (.inl (by dsimp only; omega)) (.int .u64 0)).setCell (p := ⟨w.heap.size, 3, none⟩) (.inl (by dsimp only; omega)) (.int .u64 0)).setCell (p := ⟨w.heap.size, 4, none⟩) (.inl (by dsimp only; omega)) (.int .u64 0)).setCell (p := ⟨w.heap.size, 5, none⟩) (.inl (by dsimp only; omega)) (.int .u64 0)).setCell (p := ⟨w.heap.size, 6, none⟩) (.inl (by dsimp only; omega)) (.int .u64 0)).setCell (p := ⟨w.heap.size, 7, none⟩) (.inl (by dsimp only; omega)) (.int .u64 0)).setCell (p := ⟨w.heap.size, 8, none⟩) (.inl (by dsimp only; omega)) (.bool false))
  have ar0 := Dr.cell 0 _ rfl
  have zr0 := Dr.free 0 _ rfl
  have ar1 := Dr.cell 1 _ rfl
  have zr1 := Dr.free 1 _ rfl
  have ar2 := Dr.cell 2 _ rfl
  have zr2 := Dr.free 2 _ rfl
  have ar3 := Dr.cell 3 _ rfl
  have zr3 := Dr.free 3 _ rfl
  have ar4 := Dr.cell 4 _ rfl
  have zr4 := Dr.free 4 _ rfl
  have ar5 := Dr.cell 5 _ rfl
  have zr5 := Dr.free 5 _ rfl
  have ar6 := Dr.cell 6 _ rfl
  have zr6 := Dr.free 6 _ rfl
  have ar7 := Dr.cell 7 _ rfl
  have zr7 := Dr.free 7 _ rfl
  have ar8 := Dr.cell 8 _ rfl
  have zr8 := Dr.free 8 _ rfl
  have nr := Dr.lt
  have aa0 := Da.cell 0 _ rfl
  have za0 := Da.free 0 _ rfl
  have aa1 := Da.cell 1 _ rfl
  have za1 := Da.free 1 _ rfl
  have aa2 := Da.cell 2 _ rfl
  have za2 := Da.free 2 _ rfl
  have aa3 := Da.cell 3 _ rfl
  have za3 := Da.free 3 _ rfl
  have aa4 := Da.cell 4 _ rfl
  have za4 := Da.free 4 _ rfl
  have aa5 := Da.cell 5 _ rfl
  have za5 := Da.free 5 _ rfl
  have aa6 := Da.cell 6 _ rfl
  have za6 := Da.free 6 _ rfl
  have aa7 := Da.cell 7 _ rfl
  have za7 := Da.free 7 _ rfl
  have aa8 := Da.cell 8 _ rfl
  have za8 := Da.free 8 _ rfl
  have na := Da.lt
  have aR0 := R.cells.cell 0 _ rfl
  have aR1 := R.cells.cell 1 _ rfl
  have aR2 := R.cells.cell 2 _ rfl
  have zR1 := R.cells.free 1 _ rfl
  have zR2 := R.cells.free 2 _ rfl
  have nR := R.lt.1
  have nG := R.lt.2.1
  have kR := R.kl
  refine bodyPost_ret (v := .tuple #[.agg #[.int .u64 0, .int .u64 0, .int .u64 0, .int .u64 0, .int .u64 0, .int .u64 0, .int .u64 0, .int .u64 0, .bool false], .int .i64 2]) (by simp [results, Tryd.results58, go_sem, ar0, zr0, ar1, zr1, ar2, zr2, ar3, zr3, ar4, zr4, ar5, zr5, ar6, zr6, ar7, zr7, ar8, zr8, nr]; try rfl) rfl ?_
  exact ⟨zeroP, 2, _, _, n1, _, by simp only [word_zero], ⟨rfl, rfl, by rw [HN.out, Rx.build_length]; omega⟩, R, P⟩
theorem choice_of (base b : Nat) (s : ByteArray) (l : List UInt8) (deep : Int) (d : Nat) (h : InnerOK base b s l deep (Rx.innerF l d)) : ChoiceOK base b s l deep (Rx.choiceF (Rx.innerF l d) l) :=
  choice_any base b s l deep _ (Rx.inner_goes d) (row_any base b s l deep _ (Rx.inner_goes d) (part_any base b s l deep _ (Rx.inner_goes d) (atom_any base b s l deep _ h)))
theorem inner_all (base b : Nat) (s : ByteArray) (l : List UInt8) : ∀ d : Nat, d ≤ 9 → InnerOK base b s l (9 - (d : Int)) (Rx.innerF l d) := by
  intro d
  induction d with
  | zero =>
    intro _ g cap k n w R _ _
    exact inner_z base b g cap k s l n w R
  | succ d ih =>
    intro hd g cap k n w R h40 hn
    have hc := choice_of base b s l _ d (ih (by omega))
    have e : (9 - ((d + 1 : Nat) : Int)) = 8 - (d : Int) := by omega
    rw [e]
    have e2 : (9 : Int) - (d : Int) = (8 - (d : Int)) + 1 := by omega
    rw [e2] at hc
    have hk := Rx.pk_lt (l := l) (k := k) (by omega)
    have ga := Rx.choice_goes (Rx.inner_goes d) (l := l) (k := k + 1) (by omega)
    unfold Rx.innerF
    cases hr : Rx.choiceF (Rx.innerF l d) l (k + 1) with
    | bad er i => rw [hr] at ga; exact inner_b base b g cap k s l n w R hn _ ⟨by omega, by omega⟩ _ hc h40 er i hr ga.2.2
    | ok p i =>
      dsimp only
      by_cases h41 : Rx.pk l i = 41
      · rw [if_pos h41]; exact inner_y base b g cap k s l n w R hn _ ⟨by omega, by omega⟩ _ hc h40 p i hr h41
      · rw [if_neg h41]; exact inner_n base b g cap k s l n w R hn _ ⟨by omega, by omega⟩ _ hc h40 p i hr h41
/-- a choice in no others -/
theorem choice_top (base b : Nat) (s : ByteArray) (l : List UInt8) : ChoiceOK base b s l 0 (Rx.choiceF (Rx.innerF l 9) l) :=
  choice_of base b s l 0 9 (inner_all base b s l 9 (Nat.le_refl _))
end Go.Proofs.YtcfdpbbpdnpnnaaDoor
