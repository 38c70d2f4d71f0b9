/- regex's reader: whole; net.finish. -/
import Derived.Test.YtcfdpbbpdnpnnaaDoorInner
namespace Go.Proofs.YtcfdpbbpdnpnnaaDoor
open Go Go.Proofs Go.RowKit Go.Shelf
set_option maxRecDepth 100000
attribute [local go_sem] cell_set
def wholeF (l : List UInt8) : Rx.Res Rx.Pt := match Rx.choiceF (Rx.innerF l 9) l 0 with
 | .bad e j => .bad e j
 | .ok p j => if j < l.length then .bad 2 j else .ok p j
set_option maxHeartbeats 4000000 in
theorem whole_b (base b g cap : Nat) (s : ByteArray) (l : List UInt8) (n : Rx.Nt) (w : World) (R : Rd base b g cap s l 0 n w) (hn : n.length ≤ 1) (at_ : Nat → Rx.Res Rx.Pt) (HC : ChoiceOK base b s l 0 at_) (er i : Nat) (hr : at_ 0 = .bad er i) (he : er = 2 ∨ er = 4) :
  Calls Tryd.prog 18 #[.pointer (some ⟨b, 0, none⟩)] w (PU base b g w s l n (.bad er i)) := by
 have P := Kp.refl b g w
 have hl64 := R.ll
 have hsz : s.size = l.length := by rw [Lib.size_eq, R.txt]
 obtain ⟨hbs, hgs, hts⟩ := R.lt
 have hb1 := R.b1
 have HR := Lib.hid hr
 clear hr
 have hne : ((er : Int) == 0) = false := by rw [beq_eq_false_iff_ne]; omega
 clear hsz
 go_enter Tryd.func18, Tryd.ntmps18
 go_wp2_with fail
 have uG0 := R.lt.2.1
 have Dr : At ((w).alloc (.cells #[.int .u64 0, .int .u64 0, .int .u64 0, .int .u64 0, .int .u64 0, .int .u64 0, .int .u64 0, .int .u64 0, .bool false] 53)) (w.heap.size) [.int .u64 0, .int .u64 0, .int .u64 0, .int .u64 0, .int .u64 0, .int .u64 0, .int .u64 0, .int .u64 0, .bool false] := by have h := (At.new (w) #[.int .u64 0, .int .u64 0, .int .u64 0, .int .u64 0, .int .u64 0, .int .u64 0, .int .u64 0, .int .u64 0, .bool false] 53); simpa using h
 have R := (R.alloc (.cells #[.int .u64 0, .int .u64 0, .int .u64 0, .int .u64 0, .int .u64 0, .int .u64 0, .int .u64 0, .int .u64 0, .bool false] 53))
 have P := (P.alloc (.cells #[.int .u64 0, .int .u64 0, .int .u64 0, .int .u64 0, .int .u64 0, .int .u64 0, .int .u64 0, .int .u64 0, .bool false] 53))
 have ltr := Dr.lt
 refine (HC _ _ 0 n _ R hn).mono ?_
 rintro e w1 ⟨x, er0, g1, cap1, n1, j0, rfl, hst, R2, K2⟩
 have hrow := K2.row
 have qr1 : g1 ≠ w.heap.size := by omega
 have Dr := Dr.kp K2 (by omega) (by omega)
 have P := P.trans K2
 have R := R2
 clear R2 K2 hrow ltr
 obtain ⟨ar0, zr0, ar1, zr1, ar2, zr2, ar3, zr3, ar4, zr4, ar5, zr5, ar6, zr6, ar7, zr7, ar8, zr8, nr⟩ := Dr.f9
 obtain ⟨aR0, aR1, aR2, zR1, zR2, nR, nG, kR⟩ := R.f
 rw [HR.out] at hst
 obtain ⟨rfl, hji, hlen⟩ := hst
 obtain rfl : i = j0 := hji.symm
 clear ar0 zr0 ar1 zr1 ar2 zr2 ar3 zr3 ar4 zr4 ar5 zr5 ar6 zr6 ar7 zr7 ar8 zr8 nr aR0 aR1 aR2 zR1 zR2 nR nG kR
 obtain ⟨ar0, zr0, ar1, zr1, ar2, zr2, ar3, zr3, ar4, zr4, ar5, zr5, ar6, zr6, ar7, zr7, ar8, zr8, nr⟩ := Dr.f9
 obtain ⟨aR0, aR1, aR2, zR1, zR2, nR, nG, kR⟩ := R.f
 go_upto_region 2 with (fail)
 clear ar0 zr0 ar1 zr1 ar2 zr2 ar3 zr3 ar4 zr4 ar5 zr5 ar6 zr6 ar7 zr7 ar8 zr8 nr aR0 aR1 aR2 zR1 zR2 nR nG kR
 have ur1 := Dr.lt
 have uG1 := R.lt.2.1
 have Da : At ((w1).alloc (.cells #[.int .u64 (word (x.first) 0), .int .u64 (word (x.first) 1), .int .u64 (word (x.first) 2), .int .u64 (word (x.first) 3), .int .u64 (word (x.last) 0), .int .u64 (word (x.last) 1), .int .u64 (word (x.last) 2), .int .u64 (word (x.last) 3), .bool x.none] 53)) (w1.heap.size) [.int .u64 (word (x.first) 0), .int .u64 (word (x.first) 1), .int .u64 (word (x.first) 2), .int .u64 (word (x.first) 3), .int .u64 (word (x.last) 0), .int .u64 (word (x.last) 1), .int .u64 (word (x.last) 2), .int .u64 (word (x.last) 3), .bool x.none] := by have h := (At.new (w1) #[.int .u64 (word (x.first) 0), .int .u64 (word (x.first) 1), .int .u64 (word (x.first) 2), .int .u64 (word (x.first) 3), .int .u64 (word (x.last) 0), .int .u64 (word (x.last) 1), .int .u64 (word (x.last) 2), .int .u64 (word (x.last) 3), .bool x.none] 53); simpa using h
 have Dr := (Dr.alloc (.cells #[.int .u64 (word (x.first) 0), .int .u64 (word (x.first) 1), .int .u64 (word (x.first) 2), .int .u64 (word (x.first) 3), .int .u64 (word (x.last) 0), .int .u64 (word (x.last) 1), .int .u64 (word (x.last) 2), .int .u64 (word (x.last) 3), .bool x.none] 53))
 have R := (R.alloc (.cells #[.int .u64 (word (x.first) 0), .int .u64 (word (x.first) 1), .int .u64 (word (x.first) 2), .int .u64 (word (x.first) 3), .int .u64 (word (x.last) 0), .int .u64 (word (x.last) 1), .int .u64 (word (x.last) 2), .int .u64 (word (x.last) 3), .bool x.none] 53))
 have P := (P.alloc (.cells #[.int .u64 (word (x.first) 0), .int .u64 (word (x.first) 1), .int .u64 (word (x.first) 2), .int .u64 (word (x.first) 3), .int .u64 (word (x.last) 0), .int .u64 (word (x.last) 1), .int .u64 (word (x.last) 2), .int .u64 (word (x.last) 3), .bool x.none] 53))
 generalize (w1).alloc (.cells #[.int .u64 (word (x.first) 0), .int .u64 (word (x.first) 1), .int .u64 (word (x.first) 2), .int .u64 (word (x.first) 3), .int .u64 (word (x.last) 0), .int .u64 (word (x.last) 1), .int .u64 (word (x.last) 2), .int .u64 (word (x.last) 3), .bool x.none] 53) = w8 at *
 have Dr : At ((w8).drew) (w.heap.size) [.int .u64 0, .int .u64 0, .int .u64 0, .int .u64 0, .int .u64 0, .int .u64 0, .int .u64 0, .int .u64 0, .bool false] := Dr.drew
 have Da : At ((w8).drew) (w1.heap.size) [.int .u64 (word (x.first) 0), .int .u64 (word (x.first) 1), .int .u64 (word (x.first) 2), .int .u64 (word (x.first) 3), .int .u64 (word (x.last) 0), .int .u64 (word (x.last) 1), .int .u64 (word (x.last) 2), .int .u64 (word (x.last) 3), .bool x.none] := Da.drew
 have R := R.drew
 have P := P.drew
 refine wp_region_held_drew (S := fun u => True) (by kernel_rfl) ?_ (fun hS => ?_)
 ·
  exact trivial
 generalize (w8).drew = v1 at *
 refine' wpAnyH_take (i := 0) (oi := ?oir1) (v := ?vr1) ?hir1 (by kernel_rfl) (by kernel_rfl) (by kernel_rfl) ?hQr1 ?hyr1 hS ?restr1
 case hir1 =>
  simp only [qa, qb, qc]
  exact rfl
 case hQr1 => exact fun _ _ _ h => h
 case hyr1 =>
  refine Or.inl ⟨by rfl, ?_⟩
  intro u hSw
  go_simp
  (try with_reducible rfl)
 (try simp only [Act.put, qd, qe, qf])
 refine' wpAnyH_take (i := 1) (oi := ?oir2) (v := ?vr2) ?hir2 (by kernel_rfl) (by kernel_rfl) (by kernel_rfl) ?hQr2 ?hyr2 hS ?restr2
 case hir2 =>
  simp only [qa, qb, qc]
  exact rfl
 case hQr2 => exact fun _ _ _ h => h
 case hyr2 =>
  refine Or.inl ⟨by rfl, ?_⟩
  intro u hSw
  go_simp
  (try with_reducible rfl)
 (try simp only [Act.put, qd, qe, qf])
 refine' wpAnyH_take (i := 2) (oi := ?oir3) (v := ?vr3) ?hir3 (by kernel_rfl) (by kernel_rfl) (by kernel_rfl) ?hQr3 ?hyr3 hS ?restr3
 case hir3 =>
  simp only [qa, qb, qc]
  exact rfl
 case hQr3 => exact fun _ _ _ h => h
 case hyr3 =>
  refine Or.inl ⟨by rfl, ?_⟩
  intro u hSw
  go_simp
  (try with_reducible rfl)
 (try simp only [Act.put, qd, qe, qf])
 refine' wpAnyH_take (i := 3) (oi := ?oir4) (v := undef) ?hir4 (by kernel_rfl) (by kernel_rfl) (by kernel_rfl) ?hQr4 ?hyr4 hS ?restr4
 case hir4 =>
  simp only [qa, qb, qc]
  exact rfl
 case hQr4 => exact fun _ _ _ h => h
 case hyr4 => exact Or.inr ⟨by rfl, rfl⟩
 (try simp only [Act.put, qd, qe, qf])
 refine' wpAnyH_take (i := 4) (oi := ?oir5) (v := undef) ?hir5 (by kernel_rfl) (by kernel_rfl) (by kernel_rfl) ?hQr5 ?hyr5 hS ?restr5
 case hir5 =>
  simp only [qa, qb, qc]
  exact rfl
 case hQr5 => exact fun _ _ _ h => h
 case hyr5 => exact Or.inr ⟨by rfl, rfl⟩
 (try simp only [Act.put, qd, qe, qf])
 refine' wpAnyH_take (i := 5) (oi := ?oir6) (v := undef) ?hir6 (by kernel_rfl) (by kernel_rfl) (by kernel_rfl) ?hQr6 ?hyr6 hS ?restr6
 case hir6 =>
  simp only [qa, qb, qc]
  exact rfl
 case hQr6 => exact fun _ _ _ h => h
 case hyr6 => exact Or.inr ⟨by rfl, rfl⟩
 (try simp only [Act.put, qd, qe, qf])
 refine' wpAnyH_take (i := 6) (oi := ?oir7) (v := undef) ?hir7 (by kernel_rfl) (by kernel_rfl) (by kernel_rfl) ?hQr7 ?hyr7 hS ?restr7
 case hir7 =>
  simp only [qa, qb, qc]
  exact rfl
 case hQr7 => exact fun _ _ _ h => h
 case hyr7 => exact Or.inr ⟨by rfl, rfl⟩
 (try simp only [Act.put, qd, qe, qf])
 refine' wpAnyH_take (i := 7) (oi := ?oir8) (v := undef) ?hir8 (by kernel_rfl) (by kernel_rfl) (by kernel_rfl) ?hQr8 ?hyr8 hS ?restr8
 case hir8 =>
  simp only [qa, qb, qc]
  exact rfl
 case hQr8 => exact fun _ _ _ h => h
 case hyr8 => exact Or.inr ⟨by rfl, rfl⟩
 (try simp only [Act.put, qd, qe, qf])
 refine' wpAnyH_take (i := 8) (oi := ?oir9) (v := undef) ?hir9 (by kernel_rfl) (by kernel_rfl) (by kernel_rfl) ?hQr9 ?hyr9 hS ?restr9
 case hir9 =>
  simp only [qa, qb, qc]
  exact rfl
 case hQr9 => exact fun _ _ _ h => h
 case hyr9 => exact Or.inr ⟨by rfl, rfl⟩
 (try simp only [Act.put, qd, qe, qf])
 refine' wpAnyH_take (i := 9) (oi := ?oir10) (v := undef) ?hir10 (by kernel_rfl) (by kernel_rfl) (by kernel_rfl) ?hQr10 ?hyr10 hS ?restr10
 case hir10 =>
  simp only [qa, qb, qc]
  exact rfl
 case hQr10 => exact fun _ _ _ h => h
 case hyr10 => exact Or.inr ⟨by rfl, rfl⟩
 (try simp only [Act.put, qd, qe, qf])
 refine' wpAnyH_take (i := 10) (oi := ?oir11) (v := undef) ?hir11 (by kernel_rfl) (by kernel_rfl) (by kernel_rfl) ?hQr11 ?hyr11 hS ?restr11
 case hir11 =>
  simp only [qa, qb, qc]
  exact rfl
 case hQr11 => exact fun _ _ _ h => h
 case hyr11 => exact Or.inr ⟨by rfl, rfl⟩
 (try simp only [Act.put, qd, qe, qf])
 refine' wpAnyH_take (i := 11) (oi := ?oir12) (v := undef) ?hir12 (by kernel_rfl) (by kernel_rfl) (by kernel_rfl) ?hQr12 ?hyr12 hS ?restr12
 case hir12 =>
  simp only [qa, qb, qc]
  exact rfl
 case hQr12 => exact fun _ _ _ h => h
 case hyr12 => exact Or.inr ⟨by rfl, rfl⟩
 (try simp only [Act.put, qd, qe, qf])
 refine' wpAnyH_take (i := 12) (oi := ?oir13) (v := undef) ?hir13 (by kernel_rfl) (by kernel_rfl) (by kernel_rfl) ?hQr13 ?hyr13 hS ?restr13
 case hir13 =>
  simp only [qa, qb, qc]
  exact rfl
 case hQr13 => exact fun _ _ _ h => h
 case hyr13 => exact Or.inr ⟨by rfl, rfl⟩
 (try simp only [Act.put, qd, qe, qf])
 refine' wpAnyH_take (i := 13) (oi := ?oir14) (v := ?vr14) ?hir14 (by kernel_rfl) (by kernel_rfl) (by kernel_rfl) ?hQr14 ?hyr14 hS ?restr14
 case hir14 =>
  simp only [qa, qb, qc]
  exact rfl
 case hQr14 => exact fun _ _ _ h => h
 case hyr14 =>
  refine Or.inl ⟨by rfl, ?_⟩
  intro u hSw
  go_simp
  (try with_reducible rfl)
 (try simp only [Act.put, qd, qe, qf])
 refine wpAnyH_done (by kernel_rfl) ?_ _
 clear hS
 obtain ⟨ar0, zr0, ar1, zr1, ar2, zr2, ar3, zr3, ar4, zr4, ar5, zr5, ar6, zr6, ar7, zr7, ar8, zr8, nr⟩ := Dr.f9
 have fa := Da.f9
 obtain ⟨aR0, aR1, aR2, zR1, zR2, nR, nG, kR⟩ := R.f
 go_wp2
 clear ar0 zr0 ar1 zr1 ar2 zr2 ar3 zr3 ar4 zr4 ar5 zr5 ar6 zr6 ar7 zr7 ar8 zr8 nr fa aR0 aR1 aR2 zR1 zR2 nR nG kR
 have Dr := (Dr.puts9 (.int .u64 (word (x.first) 0)) (.int .u64 (word (x.first) 1)) (.int .u64 (word (x.first) 2)) (.int .u64 (word (x.first) 3)) (.int .u64 (word (x.last) 0)) (.int .u64 (word (x.last) 1)) (.int .u64 (word (x.last) 2)) (.int .u64 (word (x.last) 3)) (.bool x.none))
 have Da := (Da.fars9 (w.heap.size) (by omega) (.int .u64 (word (x.first) 0)) (.int .u64 (word (x.first) 1)) (.int .u64 (word (x.first) 2)) (.int .u64 (word (x.first) 3)) (.int .u64 (word (x.last) 0)) (.int .u64 (word (x.last) 1)) (.int .u64 (word (x.last) 2)) (.int .u64 (word (x.last) 3)) (.bool x.none))
 have R := (R.fars9 (w.heap.size) (by omega) (by omega) (by omega) (.int .u64 (word (x.first) 0)) (.int .u64 (word (x.first) 1)) (.int .u64 (word (x.first) 2)) (.int .u64 (word (x.first) 3)) (.int .u64 (word (x.last) 0)) (.int .u64 (word (x.last) 1)) (.int .u64 (word (x.last) 2)) (.int .u64 (word (x.last) 3)) (.bool x.none))
 have P := (P.sets9 (w.heap.size) (by omega) (.int .u64 (word (x.first) 0)) (.int .u64 (word (x.first) 1)) (.int .u64 (word (x.first) 2)) (.int .u64 (word (x.first) 3)) (.int .u64 (word (x.last) 0)) (.int .u64 (word (x.last) 1)) (.int .u64 (word (x.last) 2)) (.int .u64 (word (x.last) 3)) (.bool x.none))
 obtain ⟨ar0, zr0, ar1, zr1, ar2, zr2, ar3, zr3, ar4, zr4, ar5, zr5, ar6, zr6, ar7, zr7, ar8, zr8, nr⟩ := Dr.f9
 have fa := Da.f9
 obtain ⟨aR0, aR1, aR2, zR1, zR2, nR, nG, kR⟩ := R.f
 refine bodyPost_ret (v := .tuple #[.agg #[.int .u64 (word (x.first) 0), .int .u64 (word (x.first) 1), .int .u64 (word (x.first) 2), .int .u64 (word (x.first) 3), .int .u64 (word (x.last) 0), .int .u64 (word (x.last) 1), .int .u64 (word (x.last) 2), .int .u64 (word (x.last) 3), .bool x.none], .int .i64 (er : Int)]) (by simp [results, Tryd.results18, go_sem, ar0, zr0, ar1, zr1, ar2, zr2, ar3, zr3, ar4, zr4, ar5, zr5, ar6, zr6, ar7, zr7, ar8, zr8, nr]; try rfl) rfl ?_
 exact ⟨x, (er : Int), _, _, n1, _, rfl, ⟨rfl, rfl, hlen⟩, R, P⟩
set_option maxHeartbeats 4000000 in
theorem whole_s (base b g cap : Nat) (s : ByteArray) (l : List UInt8) (n : Rx.Nt) (w : World) (R : Rd base b g cap s l 0 n w) (hn : n.length ≤ 1) (at_ : Nat → Rx.Res Rx.Pt) (HC : ChoiceOK base b s l 0 at_) (p : Rx.Pt) (i : Nat) (hr : at_ 0 = .ok p i) (hlt : i < l.length) :
  Calls Tryd.prog 18 #[.pointer (some ⟨b, 0, none⟩)] w (PU base b g w s l n (.bad 2 i)) := by
 have P := Kp.refl b g w
 have hl64 := R.ll
 have hsz : s.size = l.length := by rw [Lib.size_eq, R.txt]
 obtain ⟨hbs, hgs, hts⟩ := R.lt
 have hb1 := R.b1
 have HR := Lib.hid hr
 clear hr
 have d1 : decide ((i : Int) < (s.size : Int)) = true := decide_eq_true (by omega)
 have d2 : decide (i < s.size) = true := decide_eq_true (by omega)
 clear hsz
 go_enter Tryd.func18, Tryd.ntmps18
 go_wp2_with fail
 have uG0 := R.lt.2.1
 have Dr : At ((w).alloc (.cells #[.int .u64 0, .int .u64 0, .int .u64 0, .int .u64 0, .int .u64 0, .int .u64 0, .int .u64 0, .int .u64 0, .bool false] 53)) (w.heap.size) [.int .u64 0, .int .u64 0, .int .u64 0, .int .u64 0, .int .u64 0, .int .u64 0, .int .u64 0, .int .u64 0, .bool false] := by have h := (At.new (w) #[.int .u64 0, .int .u64 0, .int .u64 0, .int .u64 0, .int .u64 0, .int .u64 0, .int .u64 0, .int .u64 0, .bool false] 53); simpa using h
 have R := (R.alloc (.cells #[.int .u64 0, .int .u64 0, .int .u64 0, .int .u64 0, .int .u64 0, .int .u64 0, .int .u64 0, .int .u64 0, .bool false] 53))
 have P := (P.alloc (.cells #[.int .u64 0, .int .u64 0, .int .u64 0, .int .u64 0, .int .u64 0, .int .u64 0, .int .u64 0, .int .u64 0, .bool false] 53))
 have ltr := Dr.lt
 refine (HC _ _ 0 n _ R hn).mono ?_
 rintro e w1 ⟨x, er0, g1, cap1, n1, j0, rfl, hst, R2, K2⟩
 have hrow := K2.row
 have qr1 : g1 ≠ w.heap.size := by omega
 have Dr := Dr.kp K2 (by omega) (by omega)
 have P := P.trans K2
 have R := R2
 clear R2 K2 hrow ltr
 obtain ⟨ar0, zr0, ar1, zr1, ar2, zr2, ar3, zr3, ar4, zr4, ar5, zr5, ar6, zr6, ar7, zr7, ar8, zr8, nr⟩ := Dr.f9
 obtain ⟨aR0, aR1, aR2, zR1, zR2, nR, nG, kR⟩ := R.f
 rw [HR.out] at hst
 obtain ⟨hx, rfl, hji, hn1⟩ := hst
 obtain rfl : i = j0 := hji.symm
 have HX := Lib.hid hx
 have HN := Lib.hid hn1
 clear hx hn1
 clear ar0 zr0 ar1 zr1 ar2 zr2 ar3 zr3 ar4 zr4 ar5 zr5 ar6 zr6 ar7 zr7 ar8 zr8 nr aR0 aR1 aR2 zR1 zR2 nR nG kR
 obtain ⟨ar0, zr0, ar1, zr1, ar2, zr2, ar3, zr3, ar4, zr4, ar5, zr5, ar6, zr6, ar7, zr7, ar8, zr8, nr⟩ := Dr.f9
 obtain ⟨aR0, aR1, aR2, zR1, zR2, nR, nG, kR⟩ := R.f
 go_upto_region 2 with (fail)
 clear ar0 zr0 ar1 zr1 ar2 zr2 ar3 zr3 ar4 zr4 ar5 zr5 ar6 zr6 ar7 zr7 ar8 zr8 nr aR0 aR1 aR2 zR1 zR2 nR nG kR
 have ur1 := Dr.lt
 have uG1 := R.lt.2.1
 have Da : At ((w1).alloc (.cells #[.int .u64 (word (x.first) 0), .int .u64 (word (x.first) 1), .int .u64 (word (x.first) 2), .int .u64 (word (x.first) 3), .int .u64 (word (x.last) 0), .int .u64 (word (x.last) 1), .int .u64 (word (x.last) 2), .int .u64 (word (x.last) 3), .bool x.none] 53)) (w1.heap.size) [.int .u64 (word (x.first) 0), .int .u64 (word (x.first) 1), .int .u64 (word (x.first) 2), .int .u64 (word (x.first) 3), .int .u64 (word (x.last) 0), .int .u64 (word (x.last) 1), .int .u64 (word (x.last) 2), .int .u64 (word (x.last) 3), .bool x.none] := by have h := (At.new (w1) #[.int .u64 (word (x.first) 0), .int .u64 (word (x.first) 1), .int .u64 (word (x.first) 2), .int .u64 (word (x.first) 3), .int .u64 (word (x.last) 0), .int .u64 (word (x.last) 1), .int .u64 (word (x.last) 2), .int .u64 (word (x.last) 3), .bool x.none] 53); simpa using h
 have Dr := (Dr.alloc (.cells #[.int .u64 (word (x.first) 0), .int .u64 (word (x.first) 1), .int .u64 (word (x.first) 2), .int .u64 (word (x.first) 3), .int .u64 (word (x.last) 0), .int .u64 (word (x.last) 1), .int .u64 (word (x.last) 2), .int .u64 (word (x.last) 3), .bool x.none] 53))
 have R := (R.alloc (.cells #[.int .u64 (word (x.first) 0), .int .u64 (word (x.first) 1), .int .u64 (word (x.first) 2), .int .u64 (word (x.first) 3), .int .u64 (word (x.last) 0), .int .u64 (word (x.last) 1), .int .u64 (word (x.last) 2), .int .u64 (word (x.last) 3), .bool x.none] 53))
 have P := (P.alloc (.cells #[.int .u64 (word (x.first) 0), .int .u64 (word (x.first) 1), .int .u64 (word (x.first) 2), .int .u64 (word (x.first) 3), .int .u64 (word (x.last) 0), .int .u64 (word (x.last) 1), .int .u64 (word (x.last) 2), .int .u64 (word (x.last) 3), .bool x.none] 53))
 generalize (w1).alloc (.cells #[.int .u64 (word (x.first) 0), .int .u64 (word (x.first) 1), .int .u64 (word (x.first) 2), .int .u64 (word (x.first) 3), .int .u64 (word (x.last) 0), .int .u64 (word (x.last) 1), .int .u64 (word (x.last) 2), .int .u64 (word (x.last) 3), .bool x.none] 53) = w8 at *
 have Dr : At ((w8).drew) (w.heap.size) [.int .u64 0, .int .u64 0, .int .u64 0, .int .u64 0, .int .u64 0, .int .u64 0, .int .u64 0, .int .u64 0, .bool false] := Dr.drew
 have Da : At ((w8).drew) (w1.heap.size) [.int .u64 (word (x.first) 0), .int .u64 (word (x.first) 1), .int .u64 (word (x.first) 2), .int .u64 (word (x.first) 3), .int .u64 (word (x.last) 0), .int .u64 (word (x.last) 1), .int .u64 (word (x.last) 2), .int .u64 (word (x.last) 3), .bool x.none] := Da.drew
 have R := R.drew
 have P := P.drew
 refine wp_region_held_drew (S := fun u => At u b [.string s, .int .i64 (i : Int), rowV g1 n1.length cap1]) (by kernel_rfl) ?_ (fun hS => ?_)
 ·
  exact R.cells
 generalize (w8).drew = v1 at *
 refine' wpAnyH_take (i := 0) (oi := ?oir16) (v := ?vr16) ?hir16 (by kernel_rfl) (by kernel_rfl) (by kernel_rfl) ?hQr16 ?hyr16 hS ?restr16
 case hir16 =>
  simp only [qa, qb, qc]
  exact rfl
 case hQr16 => exact fun _ _ _ h => h
 case hyr16 =>
  refine Or.inl ⟨by rfl, ?_⟩
  intro u hSw
  go_simp
  (try with_reducible rfl)
 (try simp only [Act.put, qd, qe, qf])
 refine' wpAnyH_take (i := 1) (oi := ?oir17) (v := ?vr17) ?hir17 (by kernel_rfl) (by kernel_rfl) (by kernel_rfl) ?hQr17 ?hyr17 hS ?restr17
 case hir17 =>
  simp only [qa, qb, qc]
  exact rfl
 case hQr17 => exact fun _ _ _ h => h
 case hyr17 =>
  refine Or.inl ⟨by rfl, ?_⟩
  intro u hSw
  go_simp
  (try with_reducible rfl)
 (try simp only [Act.put, qd, qe, qf])
 refine' wpAnyH_take (i := 2) (oi := ?oir18) (v := ?vr18) ?hir18 (by kernel_rfl) (by kernel_rfl) (by kernel_rfl) ?hQr18 ?hyr18 hS ?restr18
 case hir18 =>
  simp only [qa, qb, qc]
  exact rfl
 case hQr18 => exact fun _ _ _ h => h
 case hyr18 =>
  refine Or.inl ⟨by rfl, ?_⟩
  intro u hSw
  go_simp
  (try with_reducible rfl)
 (try simp only [Act.put, qd, qe, qf])
 refine' wpAnyH_take (i := 3) (oi := ?oir19) (v := ?vr19) ?hir19 (by kernel_rfl) (by kernel_rfl) (by kernel_rfl) ?hQr19 ?hyr19 hS ?restr19
 case hir19 =>
  simp only [qa, qb, qc]
  exact rfl
 case hQr19 => exact fun _ _ _ h => h
 case hyr19 =>
  refine Or.inl ⟨by rfl, ?_⟩
  intro u hSw
  go_simp
  (try with_reducible rfl)
 (try simp only [Act.put, qd, qe, qf])
 refine' wpAnyH_take (i := 4) (oi := ?oir20) (v := ?vr20) ?hir20 (by kernel_rfl) (by kernel_rfl) (by kernel_rfl) ?hQr20 ?hyr20 hS ?restr20
 case hir20 =>
  simp only [qa, qb, qc]
  exact rfl
 case hQr20 => exact fun _ _ _ h => h
 case hyr20 =>
  refine Or.inl ⟨by rfl, ?_⟩
  intro u hSw
  go_simp
  (try with_reducible rfl)
 (try simp only [Act.put, qd, qe, qf])
 refine' wpAnyH_take (i := 5) (oi := ?oir21) (v := ?vr21) ?hir21 (by kernel_rfl) (by kernel_rfl) (by kernel_rfl) ?hQr21 ?hyr21 hS ?restr21
 case hir21 =>
  simp only [qa, qb, qc]
  exact rfl
 case hQr21 => exact fun _ _ _ h => h
 case hyr21 =>
  refine Or.inl ⟨by rfl, ?_⟩
  intro u hSw
  go_simp
  (try with_reducible rfl)
 (try simp only [Act.put, qd, qe, qf])
 refine' wpAnyH_take (i := 6) (oi := ?oir22) (v := ?vr22) ?hir22 (by kernel_rfl) (by kernel_rfl) (by kernel_rfl) ?hQr22 ?hyr22 hS ?restr22
 case hir22 =>
  simp only [qa, qb, qc]
  exact rfl
 case hQr22 => exact fun _ _ _ h => h
 case hyr22 =>
  refine Or.inl ⟨by rfl, ?_⟩
  intro u hSw
  have eR := hSw
  have kR0 := eR.cell 0 _ rfl
  have kR1 := eR.cell 1 _ rfl
  have kR2 := eR.cell 2 _ rfl
  have mR := eR.lt
  clear eR
  go_simp
  (try with_reducible rfl)
 (try simp only [Act.put, qd, qe, qf])
 refine' wpAnyH_take (i := 7) (oi := ?oir23) (v := ?vr23) ?hir23 (by kernel_rfl) (by kernel_rfl) (by kernel_rfl) ?hQr23 ?hyr23 hS ?restr23
 case hir23 =>
  simp only [qa, qb, qc]
  exact rfl
 case hQr23 => exact fun _ _ _ h => h
 case hyr23 =>
  refine Or.inl ⟨by rfl, ?_⟩
  intro u hSw
  go_simp
  (try with_reducible rfl)
 (try simp only [Act.put, qd, qe, qf])
 refine' wpAnyH_take (i := 8) (oi := ?oir24) (v := ?vr24) ?hir24 (by kernel_rfl) (by kernel_rfl) (by kernel_rfl) ?hQr24 ?hyr24 hS ?restr24
 case hir24 =>
  simp only [qa, qb, qc]
  exact rfl
 case hQr24 => exact fun _ _ _ h => h
 case hyr24 =>
  refine Or.inl ⟨by rfl, ?_⟩
  intro u hSw
  go_simp
  (try with_reducible rfl)
 (try simp only [Act.put, qd, qe, qf])
 refine' wpAnyH_take (i := 9) (oi := ?oir25) (v := ?vr25) ?hir25 (by kernel_rfl) (by kernel_rfl) (by kernel_rfl) ?hQr25 ?hyr25 hS ?restr25
 case hir25 =>
  simp only [qa, qb, qc]
  exact rfl
 case hQr25 => exact fun _ _ _ h => h
 case hyr25 =>
  refine Or.inl ⟨by rfl, ?_⟩
  intro u hSw
  go_simp
  (try with_reducible rfl)
 (try simp only [Act.put, qd, qe, qf])
 refine' wpAnyH_take (i := 10) (oi := ?oir26) (v := ?vr26) ?hir26 (by kernel_rfl) (by kernel_rfl) (by kernel_rfl) ?hQr26 ?hyr26 hS ?restr26
 case hir26 =>
  simp only [qa, qb, qc]
  exact rfl
 case hQr26 => exact fun _ _ _ h => h
 case hyr26 =>
  refine Or.inl ⟨by rfl, ?_⟩
  intro u hSw
  have eR := hSw
  have kR0 := eR.cell 0 _ rfl
  have kR1 := eR.cell 1 _ rfl
  have kR2 := eR.cell 2 _ rfl
  have mR := eR.lt
  clear eR
  go_simp
  (try with_reducible rfl)
 (try simp only [Act.put, qd, qe, qf])
 refine' wpAnyH_take (i := 11) (oi := ?oir27) (v := ?vr27) ?hir27 (by kernel_rfl) (by kernel_rfl) (by kernel_rfl) ?hQr27 ?hyr27 hS ?restr27
 case hir27 =>
  simp only [qa, qb, qc]
  exact rfl
 case hQr27 => exact fun _ _ _ h => h
 case hyr27 =>
  refine Or.inl ⟨by rfl, ?_⟩
  intro u hSw
  go_simp
  (try with_reducible rfl)
 (try simp only [Act.put, qd, qe, qf])
 refine' wpAnyH_take (i := 12) (oi := ?oir28) (v := ?vr28) ?hir28 (by kernel_rfl) (by kernel_rfl) (by kernel_rfl) ?hQr28 ?hyr28 hS ?restr28
 case hir28 =>
  simp only [qa, qb, qc]
  exact rfl
 case hQr28 => exact fun _ _ _ h => h
 case hyr28 =>
  refine Or.inl ⟨by rfl, ?_⟩
  intro u hSw
  go_simp
  (try with_reducible rfl)
 (try simp only [Act.put, qd, qe, qf])
 refine' wpAnyH_take (i := 13) (oi := ?oir29) (v := ?vr29) ?hir29 (by kernel_rfl) (by kernel_rfl) (by kernel_rfl) ?hQr29 ?hyr29 hS ?restr29
 case hir29 =>
  simp only [qa, qb, qc]
  exact rfl
 case hQr29 => exact fun _ _ _ h => h
 case hyr29 =>
  refine Or.inl ⟨by rfl, ?_⟩
  intro u hSw
  go_simp
  (try with_reducible rfl)
 (try simp only [Act.put, qd, qe, qf])
 refine wpAnyH_done (by kernel_rfl) ?_ _
 clear hS
 obtain ⟨ar0, zr0, ar1, zr1, ar2, zr2, ar3, zr3, ar4, zr4, ar5, zr5, ar6, zr6, ar7, zr7, ar8, zr8, nr⟩ := Dr.f9
 have fa := Da.f9
 obtain ⟨aR0, aR1, aR2, zR1, zR2, nR, nG, kR⟩ := R.f
 go_wp2
 clear ar0 zr0 ar1 zr1 ar2 zr2 ar3 zr3 ar4 zr4 ar5 zr5 ar6 zr6 ar7 zr7 ar8 zr8 nr fa aR0 aR1 aR2 zR1 zR2 nR nG kR
 have Dr := (Dr.puts9 (.int .u64 0) (.int .u64 0) (.int .u64 0) (.int .u64 0) (.int .u64 0) (.int .u64 0) (.int .u64 0) (.int .u64 0) (.bool false))
 have Da := (Da.fars9 (w.heap.size) (by omega) (.int .u64 0) (.int .u64 0) (.int .u64 0) (.int .u64 0) (.int .u64 0) (.int .u64 0) (.int .u64 0) (.int .u64 0) (.bool false))
 have R := (R.fars9 (w.heap.size) (by omega) (by omega) (by omega) (.int .u64 0) (.int .u64 0) (.int .u64 0) (.int .u64 0) (.int .u64 0) (.int .u64 0) (.int .u64 0) (.int .u64 0) (.bool false))
 have P := (P.sets9 (w.heap.size) (by omega) (.int .u64 0) (.int .u64 0) (.int .u64 0) (.int .u64 0) (.int .u64 0) (.int .u64 0) (.int .u64 0) (.int .u64 0) (.bool false))
 obtain ⟨ar0, zr0, ar1, zr1, ar2, zr2, ar3, zr3, ar4, zr4, ar5, zr5, ar6, zr6, ar7, zr7, ar8, zr8, nr⟩ := Dr.f9
 have fa := Da.f9
 obtain ⟨aR0, aR1, aR2, zR1, zR2, nR, nG, kR⟩ := R.f
 refine bodyPost_ret (v := .tuple #[.agg #[.int .u64 0, .int .u64 0, .int .u64 0, .int .u64 0, .int .u64 0, .int .u64 0, .int .u64 0, .int .u64 0, .bool false], .int .i64 2]) (by simp [results, Tryd.results18, go_sem, ar0, zr0, ar1, zr1, ar2, zr2, ar3, zr3, ar4, zr4, ar5, zr5, ar6, zr6, ar7, zr7, ar8, zr8, nr]; try rfl) rfl ?_
 exact ⟨zeroP, 2, _, _, n1, _, by simp only [word_zero], ⟨rfl, rfl, by rw [HN.out, Rx.build_length]; omega⟩, R, P⟩
set_option maxHeartbeats 4000000 in
theorem whole_o (base b g cap : Nat) (s : ByteArray) (l : List UInt8) (n : Rx.Nt) (w : World) (R : Rd base b g cap s l 0 n w) (hn : n.length ≤ 1) (at_ : Nat → Rx.Res Rx.Pt) (HC : ChoiceOK base b s l 0 at_) (p : Rx.Pt) (i : Nat) (hr : at_ 0 = .ok p i) (hlt : ¬ i < l.length) :
  Calls Tryd.prog 18 #[.pointer (some ⟨b, 0, none⟩)] w (PU base b g w s l n (.ok p i)) := by
 have P := Kp.refl b g w
 have hl64 := R.ll
 have hsz : s.size = l.length := by rw [Lib.size_eq, R.txt]
 obtain ⟨hbs, hgs, hts⟩ := R.lt
 have hb1 := R.b1
 have HR := Lib.hid hr
 clear hr
 have d1 : decide ((i : Int) < (s.size : Int)) = false := decide_eq_false (by omega)
 have d2 : decide (i < s.size) = false := decide_eq_false (by omega)
 clear hsz
 go_enter Tryd.func18, Tryd.ntmps18
 go_wp2_with fail
 have uG0 := R.lt.2.1
 have Dr : At ((w).alloc (.cells #[.int .u64 0, .int .u64 0, .int .u64 0, .int .u64 0, .int .u64 0, .int .u64 0, .int .u64 0, .int .u64 0, .bool false] 53)) (w.heap.size) [.int .u64 0, .int .u64 0, .int .u64 0, .int .u64 0, .int .u64 0, .int .u64 0, .int .u64 0, .int .u64 0, .bool false] := by have h := (At.new (w) #[.int .u64 0, .int .u64 0, .int .u64 0, .int .u64 0, .int .u64 0, .int .u64 0, .int .u64 0, .int .u64 0, .bool false] 53); simpa using h
 have R := (R.alloc (.cells #[.int .u64 0, .int .u64 0, .int .u64 0, .int .u64 0, .int .u64 0, .int .u64 0, .int .u64 0, .int .u64 0, .bool false] 53))
 have P := (P.alloc (.cells #[.int .u64 0, .int .u64 0, .int .u64 0, .int .u64 0, .int .u64 0, .int .u64 0, .int .u64 0, .int .u64 0, .bool false] 53))
 have ltr := Dr.lt
 refine (HC _ _ 0 n _ R hn).mono ?_
 rintro e w1 ⟨x, er0, g1, cap1, n1, j0, rfl, hst, R2, K2⟩
 have hrow := K2.row
 have qr1 : g1 ≠ w.heap.size := by omega
 have Dr := Dr.kp K2 (by omega) (by omega)
 have P := P.trans K2
 have R := R2
 clear R2 K2 hrow ltr
 obtain ⟨ar0, zr0, ar1, zr1, ar2, zr2, ar3, zr3, ar4, zr4, ar5, zr5, ar6, zr6, ar7, zr7, ar8, zr8, nr⟩ := Dr.f9
 obtain ⟨aR0, aR1, aR2, zR1, zR2, nR, nG, kR⟩ := R.f
 rw [HR.out] at hst
 obtain ⟨hx, rfl, hji, hn1⟩ := hst
 obtain rfl : i = j0 := hji.symm
 have HX := Lib.hid hx
 have HN := Lib.hid hn1
 clear hx hn1
 clear ar0 zr0 ar1 zr1 ar2 zr2 ar3 zr3 ar4 zr4 ar5 zr5 ar6 zr6 ar7 zr7 ar8 zr8 nr aR0 aR1 aR2 zR1 zR2 nR nG kR
 obtain ⟨ar0, zr0, ar1, zr1, ar2, zr2, ar3, zr3, ar4, zr4, ar5, zr5, ar6, zr6, ar7, zr7, ar8, zr8, nr⟩ := Dr.f9
 obtain ⟨aR0, aR1, aR2, zR1, zR2, nR, nG, kR⟩ := R.f
 go_upto_region 2 with (fail)
 clear ar0 zr0 ar1 zr1 ar2 zr2 ar3 zr3 ar4 zr4 ar5 zr5 ar6 zr6 ar7 zr7 ar8 zr8 nr aR0 aR1 aR2 zR1 zR2 nR nG kR
 have ur1 := Dr.lt
 have uG1 := R.lt.2.1
 have Da : At ((w1).alloc (.cells #[.int .u64 (word (x.first) 0), .int .u64 (word (x.first) 1), .int .u64 (word (x.first) 2), .int .u64 (word (x.first) 3), .int .u64 (word (x.last) 0), .int .u64 (word (x.last) 1), .int .u64 (word (x.last) 2), .int .u64 (word (x.last) 3), .bool x.none] 53)) (w1.heap.size) [.int .u64 (word (x.first) 0), .int .u64 (word (x.first) 1), .int .u64 (word (x.first) 2), .int .u64 (word (x.first) 3), .int .u64 (word (x.last) 0), .int .u64 (word (x.last) 1), .int .u64 (word (x.last) 2), .int .u64 (word (x.last) 3), .bool x.none] := by have h := (At.new (w1) #[.int .u64 (word (x.first) 0), .int .u64 (word (x.first) 1), .int .u64 (word (x.first) 2), .int .u64 (word (x.first) 3), .int .u64 (word (x.last) 0), .int .u64 (word (x.last) 1), .int .u64 (word (x.last) 2), .int .u64 (word (x.last) 3), .bool x.none] 53); simpa using h
 have Dr := (Dr.alloc (.cells #[.int .u64 (word (x.first) 0), .int .u64 (word (x.first) 1), .int .u64 (word (x.first) 2), .int .u64 (word (x.first) 3), .int .u64 (word (x.last) 0), .int .u64 (word (x.last) 1), .int .u64 (word (x.last) 2), .int .u64 (word (x.last) 3), .bool x.none] 53))
 have R := (R.alloc (.cells #[.int .u64 (word (x.first) 0), .int .u64 (word (x.first) 1), .int .u64 (word (x.first) 2), .int .u64 (word (x.first) 3), .int .u64 (word (x.last) 0), .int .u64 (word (x.last) 1), .int .u64 (word (x.last) 2), .int .u64 (word (x.last) 3), .bool x.none] 53))
 have P := (P.alloc (.cells #[.int .u64 (word (x.first) 0), .int .u64 (word (x.first) 1), .int .u64 (word (x.first) 2), .int .u64 (word (x.first) 3), .int .u64 (word (x.last) 0), .int .u64 (word (x.last) 1), .int .u64 (word (x.last) 2), .int .u64 (word (x.last) 3), .bool x.none] 53))
 generalize (w1).alloc (.cells #[.int .u64 (word (x.first) 0), .int .u64 (word (x.first) 1), .int .u64 (word (x.first) 2), .int .u64 (word (x.first) 3), .int .u64 (word (x.last) 0), .int .u64 (word (x.last) 1), .int .u64 (word (x.last) 2), .int .u64 (word (x.last) 3), .bool x.none] 53) = w8 at *
 have Dr : At ((w8).drew) (w.heap.size) [.int .u64 0, .int .u64 0, .int .u64 0, .int .u64 0, .int .u64 0, .int .u64 0, .int .u64 0, .int .u64 0, .bool false] := Dr.drew
 have Da : At ((w8).drew) (w1.heap.size) [.int .u64 (word (x.first) 0), .int .u64 (word (x.first) 1), .int .u64 (word (x.first) 2), .int .u64 (word (x.first) 3), .int .u64 (word (x.last) 0), .int .u64 (word (x.last) 1), .int .u64 (word (x.last) 2), .int .u64 (word (x.last) 3), .bool x.none] := Da.drew
 have R := R.drew
 have P := P.drew
 refine wp_region_held_drew (S := fun u => At u b [.string s, .int .i64 (i : Int), rowV g1 n1.length cap1]) (by kernel_rfl) ?_ (fun hS => ?_)
 ·
  exact R.cells
 generalize (w8).drew = v1 at *
 refine' wpAnyH_take (i := 0) (oi := ?oir31) (v := ?vr31) ?hir31 (by kernel_rfl) (by kernel_rfl) (by kernel_rfl) ?hQr31 ?hyr31 hS ?restr31
 case hir31 =>
  simp only [qa, qb, qc]
  exact rfl
 case hQr31 => exact fun _ _ _ h => h
 case hyr31 =>
  refine Or.inl ⟨by rfl, ?_⟩
  intro u hSw
  go_simp
  (try with_reducible rfl)
 (try simp only [Act.put, qd, qe, qf])
 refine' wpAnyH_take (i := 1) (oi := ?oir32) (v := ?vr32) ?hir32 (by kernel_rfl) (by kernel_rfl) (by kernel_rfl) ?hQr32 ?hyr32 hS ?restr32
 case hir32 =>
  simp only [qa, qb, qc]
  exact rfl
 case hQr32 => exact fun _ _ _ h => h
 case hyr32 =>
  refine Or.inl ⟨by rfl, ?_⟩
  intro u hSw
  go_simp
  (try with_reducible rfl)
 (try simp only [Act.put, qd, qe, qf])
 refine' wpAnyH_take (i := 2) (oi := ?oir33) (v := ?vr33) ?hir33 (by kernel_rfl) (by kernel_rfl) (by kernel_rfl) ?hQr33 ?hyr33 hS ?restr33
 case hir33 =>
  simp only [qa, qb, qc]
  exact rfl
 case hQr33 => exact fun _ _ _ h => h
 case hyr33 =>
  refine Or.inl ⟨by rfl, ?_⟩
  intro u hSw
  go_simp
  (try with_reducible rfl)
 (try simp only [Act.put, qd, qe, qf])
 refine' wpAnyH_take (i := 3) (oi := ?oir34) (v := ?vr34) ?hir34 (by kernel_rfl) (by kernel_rfl) (by kernel_rfl) ?hQr34 ?hyr34 hS ?restr34
 case hir34 =>
  simp only [qa, qb, qc]
  exact rfl
 case hQr34 => exact fun _ _ _ h => h
 case hyr34 =>
  refine Or.inl ⟨by rfl, ?_⟩
  intro u hSw
  go_simp
  (try with_reducible rfl)
 (try simp only [Act.put, qd, qe, qf])
 refine' wpAnyH_take (i := 4) (oi := ?oir35) (v := ?vr35) ?hir35 (by kernel_rfl) (by kernel_rfl) (by kernel_rfl) ?hQr35 ?hyr35 hS ?restr35
 case hir35 =>
  simp only [qa, qb, qc]
  exact rfl
 case hQr35 => exact fun _ _ _ h => h
 case hyr35 =>
  refine Or.inl ⟨by rfl, ?_⟩
  intro u hSw
  go_simp
  (try with_reducible rfl)
 (try simp only [Act.put, qd, qe, qf])
 refine' wpAnyH_take (i := 5) (oi := ?oir36) (v := ?vr36) ?hir36 (by kernel_rfl) (by kernel_rfl) (by kernel_rfl) ?hQr36 ?hyr36 hS ?restr36
 case hir36 =>
  simp only [qa, qb, qc]
  exact rfl
 case hQr36 => exact fun _ _ _ h => h
 case hyr36 =>
  refine Or.inl ⟨by rfl, ?_⟩
  intro u hSw
  go_simp
  (try with_reducible rfl)
 (try simp only [Act.put, qd, qe, qf])
 refine' wpAnyH_take (i := 6) (oi := ?oir37) (v := ?vr37) ?hir37 (by kernel_rfl) (by kernel_rfl) (by kernel_rfl) ?hQr37 ?hyr37 hS ?restr37
 case hir37 =>
  simp only [qa, qb, qc]
  exact rfl
 case hQr37 => exact fun _ _ _ h => h
 case hyr37 =>
  refine Or.inl ⟨by rfl, ?_⟩
  intro u hSw
  have eR := hSw
  have kR0 := eR.cell 0 _ rfl
  have kR1 := eR.cell 1 _ rfl
  have kR2 := eR.cell 2 _ rfl
  have mR := eR.lt
  clear eR
  go_simp
  (try with_reducible rfl)
 (try simp only [Act.put, qd, qe, qf])
 refine' wpAnyH_take (i := 7) (oi := ?oir38) (v := ?vr38) ?hir38 (by kernel_rfl) (by kernel_rfl) (by kernel_rfl) ?hQr38 ?hyr38 hS ?restr38
 case hir38 =>
  simp only [qa, qb, qc]
  exact rfl
 case hQr38 => exact fun _ _ _ h => h
 case hyr38 =>
  refine Or.inl ⟨by rfl, ?_⟩
  intro u hSw
  go_simp
  (try with_reducible rfl)
 (try simp only [Act.put, qd, qe, qf])
 refine' wpAnyH_take (i := 8) (oi := ?oir39) (v := ?vr39) ?hir39 (by kernel_rfl) (by kernel_rfl) (by kernel_rfl) ?hQr39 ?hyr39 hS ?restr39
 case hir39 =>
  simp only [qa, qb, qc]
  exact rfl
 case hQr39 => exact fun _ _ _ h => h
 case hyr39 =>
  refine Or.inl ⟨by rfl, ?_⟩
  intro u hSw
  go_simp
  (try with_reducible rfl)
 (try simp only [Act.put, qd, qe, qf])
 refine' wpAnyH_take (i := 9) (oi := ?oir40) (v := ?vr40) ?hir40 (by kernel_rfl) (by kernel_rfl) (by kernel_rfl) ?hQr40 ?hyr40 hS ?restr40
 case hir40 =>
  simp only [qa, qb, qc]
  exact rfl
 case hQr40 => exact fun _ _ _ h => h
 case hyr40 =>
  refine Or.inl ⟨by rfl, ?_⟩
  intro u hSw
  go_simp
  (try with_reducible rfl)
 (try simp only [Act.put, qd, qe, qf])
 refine' wpAnyH_take (i := 10) (oi := ?oir41) (v := ?vr41) ?hir41 (by kernel_rfl) (by kernel_rfl) (by kernel_rfl) ?hQr41 ?hyr41 hS ?restr41
 case hir41 =>
  simp only [qa, qb, qc]
  exact rfl
 case hQr41 => exact fun _ _ _ h => h
 case hyr41 =>
  refine Or.inl ⟨by rfl, ?_⟩
  intro u hSw
  have eR := hSw
  have kR0 := eR.cell 0 _ rfl
  have kR1 := eR.cell 1 _ rfl
  have kR2 := eR.cell 2 _ rfl
  have mR := eR.lt
  clear eR
  go_simp
  (try with_reducible rfl)
 (try simp only [Act.put, qd, qe, qf])
 refine' wpAnyH_take (i := 11) (oi := ?oir42) (v := ?vr42) ?hir42 (by kernel_rfl) (by kernel_rfl) (by kernel_rfl) ?hQr42 ?hyr42 hS ?restr42
 case hir42 =>
  simp only [qa, qb, qc]
  exact rfl
 case hQr42 => exact fun _ _ _ h => h
 case hyr42 =>
  refine Or.inl ⟨by rfl, ?_⟩
  intro u hSw
  go_simp
  (try with_reducible rfl)
 (try simp only [Act.put, qd, qe, qf])
 refine' wpAnyH_take (i := 12) (oi := ?oir43) (v := ?vr43) ?hir43 (by kernel_rfl) (by kernel_rfl) (by kernel_rfl) ?hQr43 ?hyr43 hS ?restr43
 case hir43 =>
  simp only [qa, qb, qc]
  exact rfl
 case hQr43 => exact fun _ _ _ h => h
 case hyr43 =>
  refine Or.inl ⟨by rfl, ?_⟩
  intro u hSw
  go_simp
  (try with_reducible rfl)
 (try simp only [Act.put, qd, qe, qf])
 refine' wpAnyH_take (i := 13) (oi := ?oir44) (v := ?vr44) ?hir44 (by kernel_rfl) (by kernel_rfl) (by kernel_rfl) ?hQr44 ?hyr44 hS ?restr44
 case hir44 =>
  simp only [qa, qb, qc]
  exact rfl
 case hQr44 => exact fun _ _ _ h => h
 case hyr44 =>
  refine Or.inl ⟨by rfl, ?_⟩
  intro u hSw
  go_simp
  (try with_reducible rfl)
 (try simp only [Act.put, qd, qe, qf])
 refine wpAnyH_done (by kernel_rfl) ?_ _
 clear hS
 obtain ⟨ar0, zr0, ar1, zr1, ar2, zr2, ar3, zr3, ar4, zr4, ar5, zr5, ar6, zr6, ar7, zr7, ar8, zr8, nr⟩ := Dr.f9
 have fa := Da.f9
 obtain ⟨aR0, aR1, aR2, zR1, zR2, nR, nG, kR⟩ := R.f
 go_wp2
 clear ar0 zr0 ar1 zr1 ar2 zr2 ar3 zr3 ar4 zr4 ar5 zr5 ar6 zr6 ar7 zr7 ar8 zr8 nr fa aR0 aR1 aR2 zR1 zR2 nR nG kR
 have Dr := (Dr.puts9 (.int .u64 (word (x.first) 0)) (.int .u64 (word (x.first) 1)) (.int .u64 (word (x.first) 2)) (.int .u64 (word (x.first) 3)) (.int .u64 (word (x.last) 0)) (.int .u64 (word (x.last) 1)) (.int .u64 (word (x.last) 2)) (.int .u64 (word (x.last) 3)) (.bool x.none))
 have Da := (Da.fars9 (w.heap.size) (by omega) (.int .u64 (word (x.first) 0)) (.int .u64 (word (x.first) 1)) (.int .u64 (word (x.first) 2)) (.int .u64 (word (x.first) 3)) (.int .u64 (word (x.last) 0)) (.int .u64 (word (x.last) 1)) (.int .u64 (word (x.last) 2)) (.int .u64 (word (x.last) 3)) (.bool x.none))
 have R := (R.fars9 (w.heap.size) (by omega) (by omega) (by omega) (.int .u64 (word (x.first) 0)) (.int .u64 (word (x.first) 1)) (.int .u64 (word (x.first) 2)) (.int .u64 (word (x.first) 3)) (.int .u64 (word (x.last) 0)) (.int .u64 (word (x.last) 1)) (.int .u64 (word (x.last) 2)) (.int .u64 (word (x.last) 3)) (.bool x.none))
 have P := (P.sets9 (w.heap.size) (by omega) (.int .u64 (word (x.first) 0)) (.int .u64 (word (x.first) 1)) (.int .u64 (word (x.first) 2)) (.int .u64 (word (x.first) 3)) (.int .u64 (word (x.last) 0)) (.int .u64 (word (x.last) 1)) (.int .u64 (word (x.last) 2)) (.int .u64 (word (x.last) 3)) (.bool x.none))
 obtain ⟨ar0, zr0, ar1, zr1, ar2, zr2, ar3, zr3, ar4, zr4, ar5, zr5, ar6, zr6, ar7, zr7, ar8, zr8, nr⟩ := Dr.f9
 have fa := Da.f9
 obtain ⟨aR0, aR1, aR2, zR1, zR2, nR, nG, kR⟩ := R.f
 refine bodyPost_ret (v := .tuple #[.agg #[.int .u64 (word (x.first) 0), .int .u64 (word (x.first) 1), .int .u64 (word (x.first) 2), .int .u64 (word (x.first) 3), .int .u64 (word (x.last) 0), .int .u64 (word (x.last) 1), .int .u64 (word (x.last) 2), .int .u64 (word (x.last) 3), .bool x.none], .int .i64 0]) (by simp [results, Tryd.results18, go_sem, ar0, zr0, ar1, zr1, ar2, zr2, ar3, zr3, ar4, zr4, ar5, zr5, ar6, zr6, ar7, zr7, ar8, zr8, nr]; try rfl) rfl ?_
 exact ⟨x, 0, _, _, n1, _, rfl, ⟨HX.out, rfl, rfl, HN.out⟩, R, P⟩
theorem whole_any (base b g cap : Nat) (s : ByteArray) (l : List UInt8) (n : Rx.Nt) (w : World) (R : Rd base b g cap s l 0 n w) (hn : n.length ≤ 1) :
  Calls Tryd.prog 18 #[.pointer (some ⟨b, 0, none⟩)] w (PU base b g w s l n (wholeF l)) := by
 have hc := choice_top base b s l
 have ga := Rx.choice_goes (Rx.inner_goes 9) (l := l) (k := 0) (by omega)
 unfold wholeF
 cases hr : Rx.choiceF (Rx.innerF l 9) l 0 with
 | bad er i => rw [hr] at ga; exact whole_b base b g cap s l n w R hn _ hc er i hr ga.2.2
 | ok p i =>
  dsimp only
  by_cases hlt : i < l.length
  ·
   rw [if_pos hlt]; exact whole_s base b g cap s l n w R hn _ hc p i hr hlt
  ·
   rw [if_neg hlt]; exact whole_o base b g cap s l n w R hn _ hc p i hr hlt
/-- the end's piece -/
abbrev endP : Rx.Pce := ⟨1, 1, false⟩
set_option maxHeartbeats 4000000 in
theorem finish_w (base g cap : Nat) (n : Rx.Nt) (x : Rx.Pce) (hl : ∀ i, i < 256 → x.last.testBit i = true → i < n.length) (hn : 0 < n.length) (w : World) (N : NetR base w (rowV g n.length cap) n) :
  Calls Tryd.prog 20 #[rowV g n.length cap, .agg #[.int .u64 (word (x.first) 0), .int .u64 (word (x.first) 1), .int .u64 (word (x.first) 2), .int .u64 (word (x.first) 3), .int .u64 (word (x.last) 0), .int .u64 (word (x.last) 1), .int .u64 (word (x.last) 2), .int .u64 (word (x.last) 3), .bool x.none]] w fun e w' => e = .returned (.agg #[.int .u64 (word ((seqP x endP).first) 0), .int .u64 (word ((seqP x endP).first) 1), .int .u64 (word ((seqP x endP).first) 2), .int .u64 (word ((seqP x endP).first) 3)]) ∧ NetR base w' (rowV g n.length cap) (Rx.joinN x.last 1 n) ∧ w.grownBy w' (some g) := by
 have nG := (N.lt _ rfl).2
 have nT := N.tab.lt
 have B : w.grownBy w (some g) := below_grown (Below.refl _ _)
 have HL := Lib.hid hl
 clear hl
 have fld : ∀ w, (Instr.field 53 (.agg #[.int .u64 (word ((seqP x endP).first) 0), .int .u64 (word ((seqP x endP).first) 1), .int .u64 (word ((seqP x endP).first) 2), .int .u64 (word ((seqP x endP).first) 3), .int .u64 (word ((seqP x endP).last) 0), .int .u64 (word ((seqP x endP).last) 1), .int .u64 (word ((seqP x endP).last) 2), .int .u64 (word ((seqP x endP).last) 3), .bool (seqP x endP).none]) 0).run Tryd.prog w = .ok (.agg #[.int .u64 (word ((seqP x endP).first) 0), .int .u64 (word ((seqP x endP).first) 1), .int .u64 (word ((seqP x endP).first) 2), .int .u64 (word ((seqP x endP).first) 3)]) w := fun _ => by kernel_rfl
 go_enter Tryd.func20, Tryd.ntmps20
 go_wp2_with fail
 have Dx : At (((w).alloc (.cells #[.int .u64 (word (x.first) 0), .int .u64 (word (x.first) 1), .int .u64 (word (x.first) 2), .int .u64 (word (x.first) 3), .int .u64 (word (x.last) 0), .int .u64 (word (x.last) 1), .int .u64 (word (x.last) 2), .int .u64 (word (x.last) 3), .bool x.none] 53)).alloc (.cells #[.int .u64 0, .int .u64 0, .int .u64 0, .int .u64 0] 45)) (w.heap.size) [.int .u64 (word (x.first) 0), .int .u64 (word (x.first) 1), .int .u64 (word (x.first) 2), .int .u64 (word (x.first) 3), .int .u64 (word (x.last) 0), .int .u64 (word (x.last) 1), .int .u64 (word (x.last) 2), .int .u64 (word (x.last) 3), .bool x.none] := by have h := ((At.new (w) #[.int .u64 (word (x.first) 0), .int .u64 (word (x.first) 1), .int .u64 (word (x.first) 2), .int .u64 (word (x.first) 3), .int .u64 (word (x.last) 0), .int .u64 (word (x.last) 1), .int .u64 (word (x.last) 2), .int .u64 (word (x.last) 3), .bool x.none] 53).alloc (.cells #[.int .u64 0, .int .u64 0, .int .u64 0, .int .u64 0] 45)); simpa using h
 have Dr : At (((w).alloc (.cells #[.int .u64 (word (x.first) 0), .int .u64 (word (x.first) 1), .int .u64 (word (x.first) 2), .int .u64 (word (x.first) 3), .int .u64 (word (x.last) 0), .int .u64 (word (x.last) 1), .int .u64 (word (x.last) 2), .int .u64 (word (x.last) 3), .bool x.none] 53)).alloc (.cells #[.int .u64 0, .int .u64 0, .int .u64 0, .int .u64 0] 45)) (w.heap.size + 1) [.int .u64 0, .int .u64 0, .int .u64 0, .int .u64 0] := by have h := (At.new ((w).alloc (.cells #[.int .u64 (word (x.first) 0), .int .u64 (word (x.first) 1), .int .u64 (word (x.first) 2), .int .u64 (word (x.first) 3), .int .u64 (word (x.last) 0), .int .u64 (word (x.last) 1), .int .u64 (word (x.last) 2), .int .u64 (word (x.last) 3), .bool x.none] 53)) #[.int .u64 0, .int .u64 0, .int .u64 0, .int .u64 0] 45); simpa using h
 have N := ((N.alloc (.cells #[.int .u64 (word (x.first) 0), .int .u64 (word (x.first) 1), .int .u64 (word (x.first) 2), .int .u64 (word (x.first) 3), .int .u64 (word (x.last) 0), .int .u64 (word (x.last) 1), .int .u64 (word (x.last) 2), .int .u64 (word (x.last) 3), .bool x.none] 53)).alloc (.cells #[.int .u64 0, .int .u64 0, .int .u64 0, .int .u64 0] 45))
 have B := (grown_alloc (grown_alloc B (.cells #[.int .u64 (word (x.first) 0), .int .u64 (word (x.first) 1), .int .u64 (word (x.first) 2), .int .u64 (word (x.first) 3), .int .u64 (word (x.last) 0), .int .u64 (word (x.last) 1), .int .u64 (word (x.last) 2), .int .u64 (word (x.last) 3), .bool x.none] 53)) (.cells #[.int .u64 0, .int .u64 0, .int .u64 0, .int .u64 0] 45))
 refine (swith_zero 0 (by omega) _).mono ?_
 rintro e w1 ⟨rfl, hb1⟩
 have Dx := Dx.below hb1
 have Dr := Dr.below hb1
 have N := N.below hb1
 have B := grown_trans B (below_grown hb1)
 clear hb1
 have fx := Dx.f9
 obtain ⟨ar0, zr0, ar1, zr1, ar2, zr2, ar3, zr3, nr⟩ := Dr.f4
 have nG := (N.lt _ rfl).2
 rw [show (2 : Nat) ^ 0 = 1 from rfl]
 go_upto_region 2 with (fail)
 clear fx ar0 zr0 ar1 zr1 ar2 zr2 ar3 zr3 nr nG
 have ux1 := Dx.lt
 have ur1 := Dr.lt
 have De : At ((w1).alloc (.cells #[.int .u64 (word (1) 0), .int .u64 (word (1) 1), .int .u64 (word (1) 2), .int .u64 (word (1) 3)] 45)) (w1.heap.size) [.int .u64 (word (1) 0), .int .u64 (word (1) 1), .int .u64 (word (1) 2), .int .u64 (word (1) 3)] := by have h := (At.new (w1) #[.int .u64 (word (1) 0), .int .u64 (word (1) 1), .int .u64 (word (1) 2), .int .u64 (word (1) 3)] 45); simpa using h
 have Dx := (Dx.alloc (.cells #[.int .u64 (word (1) 0), .int .u64 (word (1) 1), .int .u64 (word (1) 2), .int .u64 (word (1) 3)] 45))
 have Dr := (Dr.alloc (.cells #[.int .u64 (word (1) 0), .int .u64 (word (1) 1), .int .u64 (word (1) 2), .int .u64 (word (1) 3)] 45))
 have N := (N.alloc (.cells #[.int .u64 (word (1) 0), .int .u64 (word (1) 1), .int .u64 (word (1) 2), .int .u64 (word (1) 3)] 45))
 have B := (grown_alloc B (.cells #[.int .u64 (word (1) 0), .int .u64 (word (1) 1), .int .u64 (word (1) 2), .int .u64 (word (1) 3)] 45))
 generalize (w1).alloc (.cells #[.int .u64 (word (1) 0), .int .u64 (word (1) 1), .int .u64 (word (1) 2), .int .u64 (word (1) 3)] 45) = w8 at *
 have fx := Dx.f9
 obtain ⟨ar0, zr0, ar1, zr1, ar2, zr2, ar3, zr3, nr⟩ := Dr.f4
 have fe := De.f4
 have nG := (N.lt _ rfl).2
 go_wp2_with fail
 clear fx ar0 zr0 ar1 zr1 ar2 zr2 ar3 zr3 nr fe nG
 refine (chain_w base g cap n x endP HL.out hn _ N).mono ?_
 rintro e w2 ⟨rfl, hN, hg⟩
 replace hg : World.grownBy _ _ (some g) := hg
 have Dx := grown_at hg Dx (fun e2 => by have e3 := Option.some.inj e2; omega)
 have Dr := grown_at hg Dr (fun e2 => by have e3 := Option.some.inj e2; omega)
 have De := grown_at hg De (fun e2 => by have e3 := Option.some.inj e2; omega)
 have N := hN
 have B := grown_trans B hg
 clear hN hg
 have fx := Dx.f9
 obtain ⟨ar0, zr0, ar1, zr1, ar2, zr2, ar3, zr3, nr⟩ := Dr.f4
 have fe := De.f4
 have nG := (N.lt _ rfl).2
 go_wp2_with fail
 clear fx ar0 zr0 ar1 zr1 ar2 zr2 ar3 zr3 nr fe nG
 have Dx := (Dx.fars4 (w.heap.size + 1) (by omega) (.int .u64 (word ((seqP x endP).first) 0)) (.int .u64 (word ((seqP x endP).first) 1)) (.int .u64 (word ((seqP x endP).first) 2)) (.int .u64 (word ((seqP x endP).first) 3)))
 have Dr := (Dr.puts4 (.int .u64 (word ((seqP x endP).first) 0)) (.int .u64 (word ((seqP x endP).first) 1)) (.int .u64 (word ((seqP x endP).first) 2)) (.int .u64 (word ((seqP x endP).first) 3)))
 have De := (De.fars4 (w.heap.size + 1) (by omega) (.int .u64 (word ((seqP x endP).first) 0)) (.int .u64 (word ((seqP x endP).first) 1)) (.int .u64 (word ((seqP x endP).first) 2)) (.int .u64 (word ((seqP x endP).first) 3)))
 have N := (N.sets4 (w.heap.size + 1) (by omega) (by omega) (.int .u64 (word ((seqP x endP).first) 0)) (.int .u64 (word ((seqP x endP).first) 1)) (.int .u64 (word ((seqP x endP).first) 2)) (.int .u64 (word ((seqP x endP).first) 3)))
 have B := (grown_sets4 B (w.heap.size + 1) (by omega) (.int .u64 (word ((seqP x endP).first) 0)) (.int .u64 (word ((seqP x endP).first) 1)) (.int .u64 (word ((seqP x endP).first) 2)) (.int .u64 (word ((seqP x endP).first) 3)))
 have fx := Dx.f9
 obtain ⟨ar0, zr0, ar1, zr1, ar2, zr2, ar3, zr3, nr⟩ := Dr.f4
 have fe := De.f4
 have nG := (N.lt _ rfl).2
 refine bodyPost_ret (by simp [results, Tryd.results20, go_sem, ar0, zr0, ar1, zr1, ar2, zr2, ar3, zr3, nr]; try rfl) rfl ?_
 exact ⟨rfl, N, B⟩
end Go.Proofs.YtcfdpbbpdnpnnaaDoor
