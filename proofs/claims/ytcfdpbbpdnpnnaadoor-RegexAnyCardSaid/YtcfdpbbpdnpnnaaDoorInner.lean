/- regex's reader: inner; all of the reading. -/
import Derived.Test.YtcfdpbbpdnpnnaaDoorChoice
namespace Go.Proofs.YtcfdpbbpdnpnnaaDoor
open Go Go.Proofs Go.RowKit Go.Shelf
set_option maxRecDepth 100000
attribute [local go_sem] cell_set
set_option maxHeartbeats 4000000 in
theorem inner_z (base b g cap k : Nat) (s : ByteArray) (l : List UInt8) (n : Rx.Nt) (w : World) (R : Rd base b g cap s l k n w)  :
  Calls Tryd.prog 58 #[.pointer (some ⟨b, 0, none⟩), .int .i64 9] w (PU base b g w s l n (.bad 4 k)) := by
 have P := Kp.refl b g w
 have hl64 := R.ll
 have hkl := R.kl
 obtain ⟨hbs, hgs, hts⟩ := R.lt
 have hb1 := R.b1
 go_enter Tryd.func58, Tryd.ntmps58
 go_wp2
 have uG0 := R.lt.2.1
 have Dr : At ((w).alloc (.cells #[.int .u64 0, .int .u64 0, .int .u64 0, .int .u64 0, .int .u64 0, .int .u64 0, .int .u64 0, .int .u64 0, .bool false] 53)) (w.heap.size) [.int .u64 0, .int .u64 0, .int .u64 0, .int .u64 0, .int .u64 0, .int .u64 0, .int .u64 0, .int .u64 0, .bool false] := by have h := (At.new (w) #[.int .u64 0, .int .u64 0, .int .u64 0, .int .u64 0, .int .u64 0, .int .u64 0, .int .u64 0, .int .u64 0, .bool false] 53); simpa using h
 have R := (R.alloc (.cells #[.int .u64 0, .int .u64 0, .int .u64 0, .int .u64 0, .int .u64 0, .int .u64 0, .int .u64 0, .int .u64 0, .bool false] 53))
 have P := (P.alloc (.cells #[.int .u64 0, .int .u64 0, .int .u64 0, .int .u64 0, .int .u64 0, .int .u64 0, .int .u64 0, .int .u64 0, .bool false] 53))
 have fr := Dr.f9
 have fR := R.f
 refine bodyPost_ret (v := .tuple #[.agg #[.int .u64 0, .int .u64 0, .int .u64 0, .int .u64 0, .int .u64 0, .int .u64 0, .int .u64 0, .int .u64 0, .bool false], .int .i64 4]) (by simp [results, Tryd.results58, go_sem, fr]; try rfl) rfl ?_
 exact ⟨zeroP, 4, _, _, n, _, by simp only [word_zero], ⟨rfl, rfl, Nat.le_refl _⟩, R, P⟩
set_option maxHeartbeats 4000000 in
theorem inner_b (base b g cap k : Nat) (s : ByteArray) (l : List UInt8) (n : Rx.Nt) (w : World) (R : Rd base b g cap s l k n w) (hn : n.length ≤ k + 1) (d : Int) (hd : 0 ≤ d ∧ d ≤ 8) (at_ : Nat → Rx.Res Rx.Pt) (HC : ChoiceOK base b s l (d + 1) at_) (h40 : Rx.pk l k = 40) (er i : Nat) (hr : at_ (k + 1) = .bad er i) (he : er = 2 ∨ er = 4) :
  Calls Tryd.prog 58 #[.pointer (some ⟨b, 0, none⟩), .int .i64 d] w (PU base b g w s l n (.bad er i)) := by
 have P := Kp.refl b g w
 have hl64 := R.ll
 have hkl := R.kl
 obtain ⟨hbs, hgs, hts⟩ := R.lt
 have hb1 := R.b1
 have hk := Rx.pk_lt (l := l) (k := k) (by omega)
 have HR := Lib.hid hr
 have hdg : decide (8 < d) = false := decide_eq_false (by omega)
 clear hr h40
 have hne : ((er : Int) == 0) = false := by rw [beq_eq_false_iff_ne]; omega
 have fR := R.f
 go_enter Tryd.func58, Tryd.ntmps58
 go_wp2_with fail
 clear fR
 have uG0 := R.lt.2.1
 have Dr : At (((w).setCell ⟨b, 1, none⟩ (.int .i64 ((k + 1 : Nat) : Int))).alloc (.cells #[.int .u64 0, .int .u64 0, .int .u64 0, .int .u64 0, .int .u64 0, .int .u64 0, .int .u64 0, .int .u64 0, .bool false] 53)) (w.heap.size) [.int .u64 0, .int .u64 0, .int .u64 0, .int .u64 0, .int .u64 0, .int .u64 0, .int .u64 0, .int .u64 0, .bool false] := by have h := (At.new ((w).setCell ⟨b, 1, none⟩ (.int .i64 ((k + 1 : Nat) : Int))) #[.int .u64 0, .int .u64 0, .int .u64 0, .int .u64 0, .int .u64 0, .int .u64 0, .int .u64 0, .int .u64 0, .bool false] 53); simpa using h
 have R := ((R.move (k' := k + 1) (by omega)).alloc (.cells #[.int .u64 0, .int .u64 0, .int .u64 0, .int .u64 0, .int .u64 0, .int .u64 0, .int .u64 0, .int .u64 0, .bool false] 53))
 have P := ((P.setCell (p := ⟨b, 1, none⟩) (.inr rfl) (.int .i64 ((k + 1 : Nat) : Int))).alloc (.cells #[.int .u64 0, .int .u64 0, .int .u64 0, .int .u64 0, .int .u64 0, .int .u64 0, .int .u64 0, .int .u64 0, .bool false] 53))
 have ltr := Dr.lt
 refine (HC _ _ (k + 1) n _ R (by omega)).mono ?_
 rintro e w1 ⟨x, er0, g1, cap1, n1, j0, rfl, hst, R2, K2⟩
 have hrow := K2.row
 have qr1 : g1 ≠ w.heap.size := by omega
 have Dr := Dr.kp K2 (by omega) (by omega)
 have P := P.trans K2
 have R := R2
 clear R2 K2 hrow ltr
 have fr := Dr.f9
 have fR := R.f
 rw [HR.out] at hst
 obtain ⟨rfl, hji, hlen⟩ := hst
 obtain rfl : i = j0 := hji.symm
 clear fr fR
 have fr := Dr.f9
 have fR := R.f
 go_upto_region 5 with (fail)
 clear fr fR
 have ur1 := Dr.lt
 have uG1 := R.lt.2.1
 have Da : At ((w1).alloc (.cells #[.int .u64 (word (x.first) 0), .int .u64 (word (x.first) 1), .int .u64 (word (x.first) 2), .int .u64 (word (x.first) 3), .int .u64 (word (x.last) 0), .int .u64 (word (x.last) 1), .int .u64 (word (x.last) 2), .int .u64 (word (x.last) 3), .bool x.none] 53)) (w1.heap.size) [.int .u64 (word (x.first) 0), .int .u64 (word (x.first) 1), .int .u64 (word (x.first) 2), .int .u64 (word (x.first) 3), .int .u64 (word (x.last) 0), .int .u64 (word (x.last) 1), .int .u64 (word (x.last) 2), .int .u64 (word (x.last) 3), .bool x.none] := by have h := (At.new (w1) #[.int .u64 (word (x.first) 0), .int .u64 (word (x.first) 1), .int .u64 (word (x.first) 2), .int .u64 (word (x.first) 3), .int .u64 (word (x.last) 0), .int .u64 (word (x.last) 1), .int .u64 (word (x.last) 2), .int .u64 (word (x.last) 3), .bool x.none] 53); simpa using h
 have Dr := (Dr.alloc (.cells #[.int .u64 (word (x.first) 0), .int .u64 (word (x.first) 1), .int .u64 (word (x.first) 2), .int .u64 (word (x.first) 3), .int .u64 (word (x.last) 0), .int .u64 (word (x.last) 1), .int .u64 (word (x.last) 2), .int .u64 (word (x.last) 3), .bool x.none] 53))
 have R := (R.alloc (.cells #[.int .u64 (word (x.first) 0), .int .u64 (word (x.first) 1), .int .u64 (word (x.first) 2), .int .u64 (word (x.first) 3), .int .u64 (word (x.last) 0), .int .u64 (word (x.last) 1), .int .u64 (word (x.last) 2), .int .u64 (word (x.last) 3), .bool x.none] 53))
 have P := (P.alloc (.cells #[.int .u64 (word (x.first) 0), .int .u64 (word (x.first) 1), .int .u64 (word (x.first) 2), .int .u64 (word (x.first) 3), .int .u64 (word (x.last) 0), .int .u64 (word (x.last) 1), .int .u64 (word (x.last) 2), .int .u64 (word (x.last) 3), .bool x.none] 53))
 generalize (w1).alloc (.cells #[.int .u64 (word (x.first) 0), .int .u64 (word (x.first) 1), .int .u64 (word (x.first) 2), .int .u64 (word (x.first) 3), .int .u64 (word (x.last) 0), .int .u64 (word (x.last) 1), .int .u64 (word (x.last) 2), .int .u64 (word (x.last) 3), .bool x.none] 53) = w8 at *
 have fr := Dr.f9
 have fa := Da.f9
 have fR := R.f
 go_wp2
 clear fr fa fR
 have Dr := (Dr.puts9 (.int .u64 (word (x.first) 0)) (.int .u64 (word (x.first) 1)) (.int .u64 (word (x.first) 2)) (.int .u64 (word (x.first) 3)) (.int .u64 (word (x.last) 0)) (.int .u64 (word (x.last) 1)) (.int .u64 (word (x.last) 2)) (.int .u64 (word (x.last) 3)) (.bool x.none))
 have Da := (Da.fars9 (w.heap.size) (by omega) (.int .u64 (word (x.first) 0)) (.int .u64 (word (x.first) 1)) (.int .u64 (word (x.first) 2)) (.int .u64 (word (x.first) 3)) (.int .u64 (word (x.last) 0)) (.int .u64 (word (x.last) 1)) (.int .u64 (word (x.last) 2)) (.int .u64 (word (x.last) 3)) (.bool x.none))
 have R := (R.fars9 (w.heap.size) (by omega) (by omega) (by omega) (.int .u64 (word (x.first) 0)) (.int .u64 (word (x.first) 1)) (.int .u64 (word (x.first) 2)) (.int .u64 (word (x.first) 3)) (.int .u64 (word (x.last) 0)) (.int .u64 (word (x.last) 1)) (.int .u64 (word (x.last) 2)) (.int .u64 (word (x.last) 3)) (.bool x.none))
 have P := (P.sets9 (w.heap.size) (by omega) (.int .u64 (word (x.first) 0)) (.int .u64 (word (x.first) 1)) (.int .u64 (word (x.first) 2)) (.int .u64 (word (x.first) 3)) (.int .u64 (word (x.last) 0)) (.int .u64 (word (x.last) 1)) (.int .u64 (word (x.last) 2)) (.int .u64 (word (x.last) 3)) (.bool x.none))
 have fr := Dr.f9
 have fa := Da.f9
 have fR := R.f
 refine bodyPost_ret (v := .tuple #[.agg #[.int .u64 (word (x.first) 0), .int .u64 (word (x.first) 1), .int .u64 (word (x.first) 2), .int .u64 (word (x.first) 3), .int .u64 (word (x.last) 0), .int .u64 (word (x.last) 1), .int .u64 (word (x.last) 2), .int .u64 (word (x.last) 3), .bool x.none], .int .i64 (er : Int)]) (by simp [results, Tryd.results58, go_sem, fr]; try rfl) rfl ?_
 exact ⟨x, (er : Int), _, _, n1, _, rfl, ⟨rfl, rfl, hlen⟩, R, P⟩
set_option maxHeartbeats 4000000 in
theorem inner_y (base b g cap k : Nat) (s : ByteArray) (l : List UInt8) (n : Rx.Nt) (w : World) (R : Rd base b g cap s l k n w) (hn : n.length ≤ k + 1) (d : Int) (hd : 0 ≤ d ∧ d ≤ 8) (at_ : Nat → Rx.Res Rx.Pt) (HC : ChoiceOK base b s l (d + 1) at_) (h40 : Rx.pk l k = 40) (p : Rx.Pt) (i : Nat) (hr : at_ (k + 1) = .ok p i) (h41 : Rx.pk l i = 41) :
  Calls Tryd.prog 58 #[.pointer (some ⟨b, 0, none⟩), .int .i64 d] w (PU base b g w s l n (.ok p (i + 1))) := by
 have P := Kp.refl b g w
 have hl64 := R.ll
 have hkl := R.kl
 obtain ⟨hbs, hgs, hts⟩ := R.lt
 have hb1 := R.b1
 have hk := Rx.pk_lt (l := l) (k := k) (by omega)
 have HR := Lib.hid hr
 have hdg : decide (8 < d) = false := decide_eq_false (by omega)
 clear hr h40
 have hi := Rx.pk_lt (l := l) (k := i) (by omega)
 have H41 := Lib.hid h41
 clear h41
 have fR := R.f
 go_enter Tryd.func58, Tryd.ntmps58
 go_wp2_with fail
 clear fR
 have uG0 := R.lt.2.1
 have Dr : At (((w).setCell ⟨b, 1, none⟩ (.int .i64 ((k + 1 : Nat) : Int))).alloc (.cells #[.int .u64 0, .int .u64 0, .int .u64 0, .int .u64 0, .int .u64 0, .int .u64 0, .int .u64 0, .int .u64 0, .bool false] 53)) (w.heap.size) [.int .u64 0, .int .u64 0, .int .u64 0, .int .u64 0, .int .u64 0, .int .u64 0, .int .u64 0, .int .u64 0, .bool false] := by have h := (At.new ((w).setCell ⟨b, 1, none⟩ (.int .i64 ((k + 1 : Nat) : Int))) #[.int .u64 0, .int .u64 0, .int .u64 0, .int .u64 0, .int .u64 0, .int .u64 0, .int .u64 0, .int .u64 0, .bool false] 53); simpa using h
 have R := ((R.move (k' := k + 1) (by omega)).alloc (.cells #[.int .u64 0, .int .u64 0, .int .u64 0, .int .u64 0, .int .u64 0, .int .u64 0, .int .u64 0, .int .u64 0, .bool false] 53))
 have P := ((P.setCell (p := ⟨b, 1, none⟩) (.inr rfl) (.int .i64 ((k + 1 : Nat) : Int))).alloc (.cells #[.int .u64 0, .int .u64 0, .int .u64 0, .int .u64 0, .int .u64 0, .int .u64 0, .int .u64 0, .int .u64 0, .bool false] 53))
 have ltr := Dr.lt
 refine (HC _ _ (k + 1) n _ R (by omega)).mono ?_
 rintro e w1 ⟨x, er0, g1, cap1, n1, j0, rfl, hst, R2, K2⟩
 have hrow := K2.row
 have qr1 : g1 ≠ w.heap.size := by omega
 have Dr := Dr.kp K2 (by omega) (by omega)
 have P := P.trans K2
 have R := R2
 clear R2 K2 hrow ltr
 have fr := Dr.f9
 have fR := R.f
 rw [HR.out] at hst
 obtain ⟨hx, rfl, hji, hn1⟩ := hst
 obtain rfl : i = j0 := hji.symm
 have HX := Lib.hid hx
 have HN := Lib.hid hn1
 clear hx hn1
 clear fr fR
 have fr := Dr.f9
 have fR := R.f
 go_wp2_with fail
 clear fr fR
 have ur1 := Dr.lt
 have uG1 := R.lt.2.1
 have Da : At ((w1).alloc (.cells #[.int .u64 (word (x.first) 0), .int .u64 (word (x.first) 1), .int .u64 (word (x.first) 2), .int .u64 (word (x.first) 3), .int .u64 (word (x.last) 0), .int .u64 (word (x.last) 1), .int .u64 (word (x.last) 2), .int .u64 (word (x.last) 3), .bool x.none] 53)) (w1.heap.size) [.int .u64 (word (x.first) 0), .int .u64 (word (x.first) 1), .int .u64 (word (x.first) 2), .int .u64 (word (x.first) 3), .int .u64 (word (x.last) 0), .int .u64 (word (x.last) 1), .int .u64 (word (x.last) 2), .int .u64 (word (x.last) 3), .bool x.none] := by have h := (At.new (w1) #[.int .u64 (word (x.first) 0), .int .u64 (word (x.first) 1), .int .u64 (word (x.first) 2), .int .u64 (word (x.first) 3), .int .u64 (word (x.last) 0), .int .u64 (word (x.last) 1), .int .u64 (word (x.last) 2), .int .u64 (word (x.last) 3), .bool x.none] 53); simpa using h
 have Dr := (Dr.alloc (.cells #[.int .u64 (word (x.first) 0), .int .u64 (word (x.first) 1), .int .u64 (word (x.first) 2), .int .u64 (word (x.first) 3), .int .u64 (word (x.last) 0), .int .u64 (word (x.last) 1), .int .u64 (word (x.last) 2), .int .u64 (word (x.last) 3), .bool x.none] 53))
 have R := (R.alloc (.cells #[.int .u64 (word (x.first) 0), .int .u64 (word (x.first) 1), .int .u64 (word (x.first) 2), .int .u64 (word (x.first) 3), .int .u64 (word (x.last) 0), .int .u64 (word (x.last) 1), .int .u64 (word (x.last) 2), .int .u64 (word (x.last) 3), .bool x.none] 53))
 have P := (P.alloc (.cells #[.int .u64 (word (x.first) 0), .int .u64 (word (x.first) 1), .int .u64 (word (x.first) 2), .int .u64 (word (x.first) 3), .int .u64 (word (x.last) 0), .int .u64 (word (x.last) 1), .int .u64 (word (x.last) 2), .int .u64 (word (x.last) 3), .bool x.none] 53))
 have ltr := Dr.lt
 have lta := Da.lt
 refine (skip_yes base b _ _ i s l _ _ R 41 hi H41.out).mono ?_
 rintro e w2 ⟨g2, cap2, rfl, R2, K2⟩
 have hrow := K2.row
 have qr2 : g2 ≠ w.heap.size := by omega
 have qa2 : g2 ≠ w1.heap.size := by omega
 have Dr := Dr.kp K2 (by omega) (by omega)
 have Da := Da.kp K2 (by omega) (by omega)
 have P := P.trans K2
 have R := R2
 clear R2 K2 hrow ltr lta
 have fr := Dr.f9
 have fa := Da.f9
 have fR := R.f
 clear fr fa fR
 have fr := Dr.f9
 have fa := Da.f9
 have fR := R.f
 go_wp2
 clear fr fa fR
 have Dr := (Dr.puts9 (.int .u64 (word (x.first) 0)) (.int .u64 (word (x.first) 1)) (.int .u64 (word (x.first) 2)) (.int .u64 (word (x.first) 3)) (.int .u64 (word (x.last) 0)) (.int .u64 (word (x.last) 1)) (.int .u64 (word (x.last) 2)) (.int .u64 (word (x.last) 3)) (.bool x.none))
 have Da := (Da.fars9 (w.heap.size) (by omega) (.int .u64 (word (x.first) 0)) (.int .u64 (word (x.first) 1)) (.int .u64 (word (x.first) 2)) (.int .u64 (word (x.first) 3)) (.int .u64 (word (x.last) 0)) (.int .u64 (word (x.last) 1)) (.int .u64 (word (x.last) 2)) (.int .u64 (word (x.last) 3)) (.bool x.none))
 have R := (R.fars9 (w.heap.size) (by omega) (by omega) (by omega) (.int .u64 (word (x.first) 0)) (.int .u64 (word (x.first) 1)) (.int .u64 (word (x.first) 2)) (.int .u64 (word (x.first) 3)) (.int .u64 (word (x.last) 0)) (.int .u64 (word (x.last) 1)) (.int .u64 (word (x.last) 2)) (.int .u64 (word (x.last) 3)) (.bool x.none))
 have P := (P.sets9 (w.heap.size) (by omega) (.int .u64 (word (x.first) 0)) (.int .u64 (word (x.first) 1)) (.int .u64 (word (x.first) 2)) (.int .u64 (word (x.first) 3)) (.int .u64 (word (x.last) 0)) (.int .u64 (word (x.last) 1)) (.int .u64 (word (x.last) 2)) (.int .u64 (word (x.last) 3)) (.bool x.none))
 have fr := Dr.f9
 have fa := Da.f9
 have fR := R.f
 refine bodyPost_ret (v := .tuple #[.agg #[.int .u64 (word (x.first) 0), .int .u64 (word (x.first) 1), .int .u64 (word (x.first) 2), .int .u64 (word (x.first) 3), .int .u64 (word (x.last) 0), .int .u64 (word (x.last) 1), .int .u64 (word (x.last) 2), .int .u64 (word (x.last) 3), .bool x.none], .int .i64 0]) (by simp [results, Tryd.results58, go_sem, fr]; try rfl) rfl ?_
 exact ⟨x, 0, _, _, n1, _, rfl, ⟨HX.out, rfl, rfl, HN.out⟩, R, P⟩
set_option maxHeartbeats 4000000 in
theorem inner_n (base b g cap k : Nat) (s : ByteArray) (l : List UInt8) (n : Rx.Nt) (w : World) (R : Rd base b g cap s l k n w) (hn : n.length ≤ k + 1) (d : Int) (hd : 0 ≤ d ∧ d ≤ 8) (at_ : Nat → Rx.Res Rx.Pt) (HC : ChoiceOK base b s l (d + 1) at_) (h40 : Rx.pk l k = 40) (p : Rx.Pt) (i : Nat) (hr : at_ (k + 1) = .ok p i) (h41 : Rx.pk l i ≠ 41) :
  Calls Tryd.prog 58 #[.pointer (some ⟨b, 0, none⟩), .int .i64 d] w (PU base b g w s l n (.bad 2 i)) := by
 have P := Kp.refl b g w
 have hl64 := R.ll
 have hkl := R.kl
 obtain ⟨hbs, hgs, hts⟩ := R.lt
 have hb1 := R.b1
 have hk := Rx.pk_lt (l := l) (k := k) (by omega)
 have HR := Lib.hid hr
 have hdg : decide (8 < d) = false := decide_eq_false (by omega)
 clear hr h40
 have H41 := Lib.hid h41
 clear h41
 have fR := R.f
 go_enter Tryd.func58, Tryd.ntmps58
 go_wp2_with fail
 clear fR
 have uG0 := R.lt.2.1
 have Dr : At (((w).setCell ⟨b, 1, none⟩ (.int .i64 ((k + 1 : Nat) : Int))).alloc (.cells #[.int .u64 0, .int .u64 0, .int .u64 0, .int .u64 0, .int .u64 0, .int .u64 0, .int .u64 0, .int .u64 0, .bool false] 53)) (w.heap.size) [.int .u64 0, .int .u64 0, .int .u64 0, .int .u64 0, .int .u64 0, .int .u64 0, .int .u64 0, .int .u64 0, .bool false] := by have h := (At.new ((w).setCell ⟨b, 1, none⟩ (.int .i64 ((k + 1 : Nat) : Int))) #[.int .u64 0, .int .u64 0, .int .u64 0, .int .u64 0, .int .u64 0, .int .u64 0, .int .u64 0, .int .u64 0, .bool false] 53); simpa using h
 have R := ((R.move (k' := k + 1) (by omega)).alloc (.cells #[.int .u64 0, .int .u64 0, .int .u64 0, .int .u64 0, .int .u64 0, .int .u64 0, .int .u64 0, .int .u64 0, .bool false] 53))
 have P := ((P.setCell (p := ⟨b, 1, none⟩) (.inr rfl) (.int .i64 ((k + 1 : Nat) : Int))).alloc (.cells #[.int .u64 0, .int .u64 0, .int .u64 0, .int .u64 0, .int .u64 0, .int .u64 0, .int .u64 0, .int .u64 0, .bool false] 53))
 have ltr := Dr.lt
 refine (HC _ _ (k + 1) n _ R (by omega)).mono ?_
 rintro e w1 ⟨x, er0, g1, cap1, n1, j0, rfl, hst, R2, K2⟩
 have hrow := K2.row
 have qr1 : g1 ≠ w.heap.size := by omega
 have Dr := Dr.kp K2 (by omega) (by omega)
 have P := P.trans K2
 have R := R2
 clear R2 K2 hrow ltr
 have fr := Dr.f9
 have fR := R.f
 rw [HR.out] at hst
 obtain ⟨hx, rfl, hji, hn1⟩ := hst
 obtain rfl : i = j0 := hji.symm
 have HX := Lib.hid hx
 have HN := Lib.hid hn1
 clear hx hn1
 clear fr fR
 have fr := Dr.f9
 have fR := R.f
 go_wp2_with fail
 clear fr fR
 have ur1 := Dr.lt
 have uG1 := R.lt.2.1
 have Da : At ((w1).alloc (.cells #[.int .u64 (word (x.first) 0), .int .u64 (word (x.first) 1), .int .u64 (word (x.first) 2), .int .u64 (word (x.first) 3), .int .u64 (word (x.last) 0), .int .u64 (word (x.last) 1), .int .u64 (word (x.last) 2), .int .u64 (word (x.last) 3), .bool x.none] 53)) (w1.heap.size) [.int .u64 (word (x.first) 0), .int .u64 (word (x.first) 1), .int .u64 (word (x.first) 2), .int .u64 (word (x.first) 3), .int .u64 (word (x.last) 0), .int .u64 (word (x.last) 1), .int .u64 (word (x.last) 2), .int .u64 (word (x.last) 3), .bool x.none] := by have h := (At.new (w1) #[.int .u64 (word (x.first) 0), .int .u64 (word (x.first) 1), .int .u64 (word (x.first) 2), .int .u64 (word (x.first) 3), .int .u64 (word (x.last) 0), .int .u64 (word (x.last) 1), .int .u64 (word (x.last) 2), .int .u64 (word (x.last) 3), .bool x.none] 53); simpa using h
 have Dr := (Dr.alloc (.cells #[.int .u64 (word (x.first) 0), .int .u64 (word (x.first) 1), .int .u64 (word (x.first) 2), .int .u64 (word (x.first) 3), .int .u64 (word (x.last) 0), .int .u64 (word (x.last) 1), .int .u64 (word (x.last) 2), .int .u64 (word (x.last) 3), .bool x.none] 53))
 have R := (R.alloc (.cells #[.int .u64 (word (x.first) 0), .int .u64 (word (x.first) 1), .int .u64 (word (x.first) 2), .int .u64 (word (x.first) 3), .int .u64 (word (x.last) 0), .int .u64 (word (x.last) 1), .int .u64 (word (x.last) 2), .int .u64 (word (x.last) 3), .bool x.none] 53))
 have P := (P.alloc (.cells #[.int .u64 (word (x.first) 0), .int .u64 (word (x.first) 1), .int .u64 (word (x.first) 2), .int .u64 (word (x.first) 3), .int .u64 (word (x.last) 0), .int .u64 (word (x.last) 1), .int .u64 (word (x.last) 2), .int .u64 (word (x.last) 3), .bool x.none] 53))
 refine (skip_no base b _ _ i s l _ _ R 41 H41.out).mono ?_
 rintro e w2 ⟨rfl, hb2⟩
 have Dr := Dr.below hb2
 have Da := Da.below hb2
 have R := R.below hb2
 have P := P.below hb2
 clear hb2
 have fr := Dr.f9
 have fa := Da.f9
 have fR := R.f
 clear fr fa fR
 have fr := Dr.f9
 have fa := Da.f9
 have fR := R.f
 go_wp2
 clear fr fa fR
 have Dr := (Dr.puts9 (.int .u64 0) (.int .u64 0) (.int .u64 0) (.int .u64 0) (.int .u64 0) (.int .u64 0) (.int .u64 0) (.int .u64 0) (.bool false))
 have Da := (Da.fars9 (w.heap.size) (by omega) (.int .u64 0) (.int .u64 0) (.int .u64 0) (.int .u64 0) (.int .u64 0) (.int .u64 0) (.int .u64 0) (.int .u64 0) (.bool false))
 have R := (R.fars9 (w.heap.size) (by omega) (by omega) (by omega) (.int .u64 0) (.int .u64 0) (.int .u64 0) (.int .u64 0) (.int .u64 0) (.int .u64 0) (.int .u64 0) (.int .u64 0) (.bool false))
 have P := (P.sets9 (w.heap.size) (by omega) (.int .u64 0) (.int .u64 0) (.int .u64 0) (.int .u64 0) (.int .u64 0) (.int .u64 0) (.int .u64 0) (.int .u64 0) (.bool false))
 have fr := Dr.f9
 have fa := Da.f9
 have fR := R.f
 refine bodyPost_ret (v := .tuple #[.agg #[.int .u64 0, .int .u64 0, .int .u64 0, .int .u64 0, .int .u64 0, .int .u64 0, .int .u64 0, .int .u64 0, .bool false], .int .i64 2]) (by simp [results, Tryd.results58, go_sem, fr]; try rfl) rfl ?_
 exact ⟨zeroP, 2, _, _, n1, _, by simp only [word_zero], ⟨rfl, rfl, by rw [HN.out, Rx.build_length]; omega⟩, R, P⟩
theorem choice_of (base b : Nat) (s : ByteArray) (l : List UInt8) (deep : Int) (d : Nat) (h : InnerOK base b s l deep (Rx.innerF l d)) : ChoiceOK base b s l deep (Rx.choiceF (Rx.innerF l d) l) :=
 choice_any base b s l deep _ (Rx.inner_goes d) (row_any base b s l deep _ (Rx.inner_goes d) (part_any base b s l deep _ (Rx.inner_goes d) (atom_any base b s l deep _ h)))
theorem inner_all (base b : Nat) (s : ByteArray) (l : List UInt8) : ∀ d : Nat, d ≤ 9 → InnerOK base b s l (9 - (d : Int)) (Rx.innerF l d) := by
 intro d
 induction d with
 | zero =>
  intro _ g cap k n w R _ _
  exact inner_z base b g cap k s l n w R
 | succ d ih =>
  intro hd g cap k n w R h40 hn
  have hc := choice_of base b s l _ d (ih (by omega))
  have e : (9 - ((d + 1 : Nat) : Int)) = 8 - (d : Int) := by omega
  rw [e]
  have e2 : (9 : Int) - (d : Int) = (8 - (d : Int)) + 1 := by omega
  rw [e2] at hc
  have hk := Rx.pk_lt (l := l) (k := k) (by omega)
  have ga := Rx.choice_goes (Rx.inner_goes d) (l := l) (k := k + 1) (by omega)
  unfold Rx.innerF
  cases hr : Rx.choiceF (Rx.innerF l d) l (k + 1) with
  | bad er i => rw [hr] at ga; exact inner_b base b g cap k s l n w R hn _ ⟨by omega, by omega⟩ _ hc h40 er i hr ga.2.2
  | ok p i =>
   dsimp only
   by_cases h41 : Rx.pk l i = 41
   ·
    rw [if_pos h41]; exact inner_y base b g cap k s l n w R hn _ ⟨by omega, by omega⟩ _ hc h40 p i hr h41
   ·
    rw [if_neg h41]; exact inner_n base b g cap k s l n w R hn _ ⟨by omega, by omega⟩ _ hc h40 p i hr h41
/-- a choice in no others -/
theorem choice_top (base b : Nat) (s : ByteArray) (l : List UInt8) : ChoiceOK base b s l 0 (Rx.choiceF (Rx.innerF l 9) l) :=
 choice_of base b s l 0 9 (inner_all base b s l 9 (Nat.le_refl _))
end Go.Proofs.YtcfdpbbpdnpnnaaDoor
