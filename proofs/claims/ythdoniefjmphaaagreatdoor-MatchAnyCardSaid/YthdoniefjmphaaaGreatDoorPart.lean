/- regex's reader: part. -/
import Derived.Test.YthdoniefjmphaaaGreatDoorAtom
import Derived.Test.YthdoniefjmphaaaGreatDoorChain
namespace Go.Proofs.YthdoniefjmphaaaGreatDoor
open Go Go.Proofs Go.RowKit Go.Shelf
set_option maxRecDepth 100000
attribute [local go_sem] cell_set
def PartOK (base b : Nat) (s : ByteArray) (l : List UInt8) (deep : Int) (at_ : Nat → Rx.Res Rx.Pt) : Prop :=
 ∀ (g cap k : Nat) (n : Rx.Nt) (w : World), Rd base b g cap s l k n w → n.length ≤ k + 1 → Calls Tryz.prog 108 #[.pointer (some ⟨b, 0, none⟩), .int .i64 deep] w (PU base b g w s l n (at_ k))
theorem last_lt (p : Rx.Pt) (n : Rx.Nt) {x : Rx.Pce} {n1 : Rx.Nt} (hx : x = (Rx.build p n).1) (hn : n1 = (Rx.build p n).2) : ∀ i, i < 256 → x.last.testBit i = true → i < n1.length := by
 intro i _ h;rw [hx] at h;rw [hn];exact ((Rx.build_good p n).sits.last i h).2
theorem again_w (base g cap : Nat) (n : Rx.Nt) (x : Rx.Pce) (hl : ∀ i, i < 256 → x.last.testBit i = true → i < n.length) (hn : 0 < n.length) (w : World) (N : NetR base w (rowV g n.length cap) n) :
  Calls Tryz.prog 120 #[rowV g n.length cap, .agg #[.int .u64 (word x.first 0), .int .u64 (word x.first 1), .int .u64 (word x.first 2), .int .u64 (word x.first 3), .int .u64 (word x.last 0), .int .u64 (word x.last 1), .int .u64 (word x.last 2), .int .u64 (word x.last 3), .bool x.none]] w fun e w' => e = .returned (.agg #[.int .u64 (word x.first 0), .int .u64 (word x.first 1), .int .u64 (word x.first 2), .int .u64 (word x.first 3), .int .u64 (word x.last 0), .int .u64 (word x.last 1), .int .u64 (word x.last 2), .int .u64 (word x.last 3), .bool x.none]) ∧ NetR base w' (rowV g n.length cap) (Rx.joinN x.last x.first n) ∧ w.grownBy w' (some g) := again_any base g cap n x hl hn w N
theorem perhaps_w (x : Rx.Pce) (w : World) :
  Calls Tryz.prog 119 #[.agg #[.int .u64 (word x.first 0), .int .u64 (word x.first 1), .int .u64 (word x.first 2), .int .u64 (word x.first 3), .int .u64 (word x.last 0), .int .u64 (word x.last 1), .int .u64 (word x.last 2), .int .u64 (word x.last 3), .bool x.none]] w fun e w' => e = .returned (.agg #[.int .u64 (word x.first 0), .int .u64 (word x.first 1), .int .u64 (word x.first 2), .int .u64 (word x.first 3), .int .u64 (word x.last 0), .int .u64 (word x.last 1), .int .u64 (word x.last 2), .int .u64 (word x.last 3), .bool true]) ∧ Below w.heap.size w w' := perhaps_any x w
set_option maxHeartbeats 4000000 in
theorem part_a (base b g cap k : Nat) (s : ByteArray) (l : List UInt8) (n : Rx.Nt) (w : World) (deep : Int) (R : Rd base b g cap s l k n w) (hn : n.length ≤ k + 1) (at_ : Nat → Rx.Res Rx.Pt) (HA : AtomOK base b s l deep at_) (er j : Nat) (hr : at_ k = .bad er j) (he : er = 2 ∨ er = 4) :
  Calls Tryz.prog 108 #[.pointer (some ⟨b, 0, none⟩), .int .i64 deep] w (PU base b g w s l n (.bad er j)) := by
 have P := Kp.refl b g w;have hl64 := R.ll;have hkl := R.kl;obtain ⟨hbs, hgs, hts⟩ := R.lt;have hb1 := R.b1;have HR := Lib.hid hr;clear hr;have hne : ((er : Int) != 0) = true := by rw [bne_iff_ne]; omega
 go_enter Tryz.func108, Tryz.ntmps108
 go_wp2_with fail
 have uG0 := R.lt.2.1;have Dr := At.nwz _ (w) rfl;obtain ⟨R, P⟩ := (fun o => And.intro (R.alloc o) (P.alloc o)) zC;have ltr := Dr.lt;refine (HA _ _ k n _ R hn).mono ?_;rintro e w1 ⟨x, er0, g1, cap1, n1, j0, rfl, hst, R2, K2⟩;have hrow := K2.row;have qr1 : g1 ≠ w.heap.size := by omega
 have Dr := Dr.kp K2 (by omega) (by omega);have P := P.trans K2;have R := R2;clear R2 K2 hrow ltr;have fr := Dr.f9;have fR := R.f;rw [HR.out] at hst;obtain ⟨rfl, rfl, hlen⟩ := hst;clear fr fR;have fr := Dr.f9;have fR := R.f;go_upto_region 3 with (fail)
 clear fr fR;have ur1 := Dr.lt;have uG1 := R.lt.2.1;have Dp := At.nwp _ (w1) (x.first) (x.last) x.none rfl;obtain ⟨Dr, R, P⟩ := (fun o => And.intro (Dr.alloc o) (And.intro (R.alloc o) (P.alloc o))) (pC (x.first) (x.last) x.none);generalize (w1).alloc (pC (x.first) (x.last) x.none) = w8 at *;have fr := Dr.f9;have fp := Dp.f9;have fR := R.f;go_wp2
 clear fr fp fR;obtain ⟨Dr, Dp, R, P⟩ := (fun o0 o1 o2 o3 o4 o5 o6 o7 o8 => And.intro (Dr.puts9 o0 o1 o2 o3 o4 o5 o6 o7 o8) (And.intro (Dp.fars9 (w.heap.size) (by omega) o0 o1 o2 o3 o4 o5 o6 o7 o8) (And.intro (R.fars9 (w.heap.size) (by omega) (by omega) (by omega) o0 o1 o2 o3 o4 o5 o6 o7 o8) (P.sets9 (w.heap.size) (by omega) o0 o1 o2 o3 o4 o5 o6 o7 o8)))) (.int .u64 0) (.int .u64 0) (.int .u64 0) (.int .u64 0) (.int .u64 0) (.int .u64 0) (.int .u64 0) (.int .u64 0) (.bool false);have fr := Dr.f9;have fp := Dp.f9;have fR := R.f;refine bodyPost_ret (v := .tuple #[.agg #[.int .u64 0, .int .u64 0, .int .u64 0, .int .u64 0, .int .u64 0, .int .u64 0, .int .u64 0, .int .u64 0, .bool false], .int .i64 (er : Int)]) (by simp [results, Tryz.results108, go_sem, fr]; try rfl) rfl ?_;exact ⟨zeroP, (er : Int), _, _, n1, _, by simp only [word_zero], ⟨rfl, rfl, hlen⟩, R, P⟩
set_option maxHeartbeats 4000000 in
theorem part_s (base b g cap k : Nat) (s : ByteArray) (l : List UInt8) (n : Rx.Nt) (w : World) (deep : Int) (R : Rd base b g cap s l k n w) (hn : n.length ≤ k + 1) (at_ : Nat → Rx.Res Rx.Pt) (HA : AtomOK base b s l deep at_) (p : Rx.Pt) (i : Nat) (hr : at_ k = .ok p i) (h42 : Rx.pk l i = 42) :
  Calls Tryz.prog 108 #[.pointer (some ⟨b, 0, none⟩), .int .i64 deep] w (PU base b g w s l n (.ok (.star p) (i + 1))) := by
 have P := Kp.refl b g w;have hl64 := R.ll;have hkl := R.kl;obtain ⟨hbs, hgs, hts⟩ := R.lt;have hb1 := R.b1;have HR := Lib.hid hr;clear hr;have hj := Rx.pk_lt (l := l) (k := i) (by omega);have H42 := Lib.hid h42;clear h42;go_enter Tryz.func108, Tryz.ntmps108
 go_wp2_with fail
 have uG0 := R.lt.2.1;have Dr := At.nwz _ (w) rfl;obtain ⟨R, P⟩ := (fun o => And.intro (R.alloc o) (P.alloc o)) zC;have ltr := Dr.lt;refine (HA _ _ k n _ R hn).mono ?_;rintro e w1 ⟨x, er0, g1, cap1, n1, j0, rfl, hst, R2, K2⟩;have hrow := K2.row;have qr1 : g1 ≠ w.heap.size := by omega
 have Dr := Dr.kp K2 (by omega) (by omega);have P := P.trans K2;have R := R2;clear R2 K2 hrow ltr;have fr := Dr.f9;have fR := R.f;rw [HR.out] at hst;obtain ⟨hx, rfl, hji, hn1⟩ := hst;obtain rfl : i = j0 := hji.symm;have HL := Lib.hid (last_lt p n hx hn1);have HX := Lib.hid hx;have HN := Lib.hid hn1;clear hx hn1;go_wp2_with fail
 go_wp2_with fail
 clear fr fR;have ur1 := Dr.lt;have uG1 := R.lt.2.1;have Dp := At.nwp _ (w1) (x.first) (x.last) x.none rfl;obtain ⟨Dr, R, P⟩ := (fun o => And.intro (Dr.alloc o) (And.intro (R.alloc o) (P.alloc o))) (pC (x.first) (x.last) x.none);have ltr := Dr.lt;have ltp := Dp.lt;refine (skip_yes base b _ _ i s l _ _ R 42 hj H42.out).mono ?_;rintro e w2 ⟨g2, cap2, rfl, R2, K2⟩;have hrow := K2.row;have qr2 : g2 ≠ w.heap.size := by omega
 have qp2 : g2 ≠ w1.heap.size := by omega
 have Dr := Dr.kp K2 (by omega) (by omega);have Dp := Dp.kp K2 (by omega) (by omega);have P := P.trans K2;have R := R2;clear R2 K2 hrow ltr ltp;have fr := Dr.f9;have fp := Dp.f9;have fR := R.f;clear fr fp fR;have fr := Dr.f9;have fp := Dp.f9;have fR := R.f;go_upto_region 5 with (fail)
 clear fr fp fR;have Dr : At ((w2).drew) (w.heap.size) zL := Dr.drew;have Dp : At ((w2).drew) (w1.heap.size) (pL (x.first) (x.last) x.none) := Dp.drew;have R := R.drew;have P := P.drew;refine wp_region_held_drew (S := fun u => At u (w1.heap.size) (pL (x.first) (x.last) x.none)) (by kernel_rfl) ?_ (fun hS => ?_)
 ·
  exact Dp
 generalize (w2).drew = v2 at *;refine tkH 0 hS ?_;refine tkH 1 hS ?_;refine tkH 2 hS ?_;refine tkC 4 hS (fun _ h => h.f9) ?_;refine wpAnyH_ready (rs := [3]) (by kernel_rfl) (by simp) ?_;refine' AllReadyH.cons (o := ?oor5) ?hor5 (fun K hK => ?str5) AllReadyH.nil
 case hor5 =>
  simp only [qa, qb, qc];exact rfl
 have fr := Dr.f9;have fp := Dp.f9;have fR := R.f;go_simp
 clear fr fp fR;refine hK.out _ _ ?_ (fun hS => ?_)
 · exact Dp
 clear hK K
 (try simp only [Act.put, qd, qe, qf])
 refine wpAnyH_ready (rs := [5]) (by kernel_rfl) (by simp) ?_;refine' AllReadyH.cons (o := ?oor6) ?hor6 (fun K hK => ?str6) AllReadyH.nil
 case hor6 =>
  simp only [qa, qb, qc];exact rfl
 go_simp
 go_at_call 120
 refine (again_w base _ _ n1 x HL.out R.pos _ R.net).mono ?_;rintro e w4 ⟨rfl, hN, hg⟩;have Dr := grown_at hg Dr (fun e2 => by have e3 := Option.some.inj e2; omega);have Dp := grown_at hg Dp (fun e2 => by have e3 := Option.some.inj e2; omega);have R := R.rows hg (Rx.joinN_length _ _ _) hN;have P := P.grown hg;clear hN hg;have fr := Dr.f9;have fp := Dp.f9;have fR := R.f;clear fr fp fR;refine hK.out _ _ ?_ (fun hS => ?_)
 · exact Dp
 clear hK K
 (try simp only [Act.put, qd, qe, qf])
 refine wpAnyH_ready (rs := [6]) (by kernel_rfl) (by simp) ?_;refine' AllReadyH.cons (o := ?oor7) ?hor7 (fun K hK => ?str7) AllReadyH.nil
 case hor7 =>
  simp only [qa, qb, qc];exact rfl
 go_simp
 go_at_call 119
 refine (perhaps_w x _).mono ?_;rintro e w5 ⟨rfl, hb5⟩;have Dr := Dr.below hb5;have Dp := Dp.below hb5;have R := R.below hb5;have P := P.below hb5;clear hb5;have fr := Dr.f9;have fp := Dp.f9;have fR := R.f;clear fr fp fR;refine hK.out _ _ ?_ (fun hS => ?_)
 · exact Dp
 clear hK K
 (try simp only [Act.put, qd, qe, qf])
 refine wpAnyH_ready (rs := [7]) (by kernel_rfl) (by simp) ?_;refine' AllReadyH.cons (o := ?oor8) ?hor8 (fun K hK => ?str8) AllReadyH.nil
 case hor8 =>
  simp only [qa, qb, qc];exact rfl
 have fr := Dr.f9;have fp := Dp.f9;have fR := R.f;go_simp
 clear fr fp fR;have q9 := fun o0 o1 o2 o3 o4 o5 o6 o7 o8 => And.intro (Dr.puts9 o0 o1 o2 o3 o4 o5 o6 o7 o8) (And.intro (Dp.fars9 (w.heap.size) (by omega) o0 o1 o2 o3 o4 o5 o6 o7 o8) (And.intro (R.fars9 (w.heap.size) (by omega) (by omega) (by omega) o0 o1 o2 o3 o4 o5 o6 o7 o8) (P.sets9 (w.heap.size) (by omega) o0 o1 o2 o3 o4 o5 o6 o7 o8)));obtain ⟨Dr, Dp, R, P⟩ := app9 q9 (x.first) (x.last) true;clear q9;refine hK.out _ _ ?_ (fun hS => ?_)
 · exact Dp
 clear hK K
 (try simp only [Act.put, qd, qe, qf])
 refine tkH 8 hS ?_;refine wpAnyH_done (by kernel_rfl) ?_ _;clear hS;have fr := Dr.f9;have fp := Dp.f9;have fR := R.f;go_wp2
 refine bodyPost_ret (v := .tuple #[.agg #[.int .u64 (word (x.first) 0), .int .u64 (word (x.first) 1), .int .u64 (word (x.first) 2), .int .u64 (word (x.first) 3), .int .u64 (word (x.last) 0), .int .u64 (word (x.last) 1), .int .u64 (word (x.last) 2), .int .u64 (word (x.last) 3), .bool true], .int .i64 0]) (by simp [results, Tryz.results108, go_sem, fr]; try rfl) rfl ?_;exact ⟨⟨x.first, x.last, true⟩, 0, _, _, Rx.joinN x.last x.first n1, _, rfl, ⟨by first | exact HX.out | (rw [HX.out]; rfl), rfl, rfl, by first | exact HN.out | (rw [HX.out, HN.out]; rfl)⟩, R, P⟩
set_option maxHeartbeats 4000000 in
theorem part_p (base b g cap k : Nat) (s : ByteArray) (l : List UInt8) (n : Rx.Nt) (w : World) (deep : Int) (R : Rd base b g cap s l k n w) (hn : n.length ≤ k + 1) (at_ : Nat → Rx.Res Rx.Pt) (HA : AtomOK base b s l deep at_) (p : Rx.Pt) (i : Nat) (hr : at_ k = .ok p i) (h42 : Rx.pk l i ≠ 42) (h43 : Rx.pk l i = 43) :
  Calls Tryz.prog 108 #[.pointer (some ⟨b, 0, none⟩), .int .i64 deep] w (PU base b g w s l n (.ok (.plus p) (i + 1))) := by
 have P := Kp.refl b g w;have hl64 := R.ll;have hkl := R.kl;obtain ⟨hbs, hgs, hts⟩ := R.lt;have hb1 := R.b1;have HR := Lib.hid hr;clear hr;have H42 := Lib.hid h42;clear h42;have hj := Rx.pk_lt (l := l) (k := i) (by omega);have H43 := Lib.hid h43;clear h43;go_enter Tryz.func108, Tryz.ntmps108
 go_wp2_with fail
 have uG0 := R.lt.2.1;have Dr := At.nwz _ (w) rfl;obtain ⟨R, P⟩ := (fun o => And.intro (R.alloc o) (P.alloc o)) zC;have ltr := Dr.lt;refine (HA _ _ k n _ R hn).mono ?_;rintro e w1 ⟨x, er0, g1, cap1, n1, j0, rfl, hst, R2, K2⟩;have hrow := K2.row;have qr1 : g1 ≠ w.heap.size := by omega
 have Dr := Dr.kp K2 (by omega) (by omega);have P := P.trans K2;have R := R2;clear R2 K2 hrow ltr;have fr := Dr.f9;have fR := R.f;rw [HR.out] at hst;obtain ⟨hx, rfl, hji, hn1⟩ := hst;obtain rfl : i = j0 := hji.symm;have HL := Lib.hid (last_lt p n hx hn1);have HX := Lib.hid hx;have HN := Lib.hid hn1;clear hx hn1;go_wp2_with fail
 go_wp2_with fail
 clear fr fR;have ur1 := Dr.lt;have uG1 := R.lt.2.1;have Dp := At.nwp _ (w1) (x.first) (x.last) x.none rfl;obtain ⟨Dr, R, P⟩ := (fun o => And.intro (Dr.alloc o) (And.intro (R.alloc o) (P.alloc o))) (pC (x.first) (x.last) x.none);refine (skip_no base b _ _ i s l _ _ R 42 H42.out).mono ?_;rintro e w2 ⟨rfl, hb2⟩;have Dr := Dr.below hb2;have Dp := Dp.below hb2;have R := R.below hb2;have P := P.below hb2;clear hb2;have fr := Dr.f9;have fp := Dp.f9;have fR := R.f;go_wp2_with fail
 clear fr fp fR;have ltr := Dr.lt;have ltp := Dp.lt;refine (skip_yes base b _ _ i s l _ _ R 43 hj H43.out).mono ?_;rintro e w3 ⟨g3, cap3, rfl, R2, K2⟩;have hrow := K2.row;have qr3 : g3 ≠ w.heap.size := by omega
 have qp3 : g3 ≠ w1.heap.size := by omega
 have Dr := Dr.kp K2 (by omega) (by omega);have Dp := Dp.kp K2 (by omega) (by omega);have P := P.trans K2;have R := R2;clear R2 K2 hrow ltr ltp;have fr := Dr.f9;have fp := Dp.f9;have fR := R.f;clear fr fp fR;have fr := Dr.f9;have fp := Dp.f9;have fR := R.f;go_upto_region 7 with (fail)
 clear fr fp fR;have Dr : At ((w3).drew) (w.heap.size) zL := Dr.drew;have Dp : At ((w3).drew) (w1.heap.size) (pL (x.first) (x.last) x.none) := Dp.drew;have R := R.drew;have P := P.drew;refine wp_region_held_drew (S := fun u => At u (w1.heap.size) (pL (x.first) (x.last) x.none)) (by kernel_rfl) ?_ (fun hS => ?_)
 ·
  exact Dp
 generalize (w3).drew = v3 at *;refine tkH 0 hS ?_;refine tkH 1 hS ?_;refine tkH 2 hS ?_;refine tkC 4 hS (fun _ h => h.f9) ?_;refine wpAnyH_ready (rs := [3]) (by kernel_rfl) (by simp) ?_;refine' AllReadyH.cons (o := ?oor15) ?hor15 (fun K hK => ?str15) AllReadyH.nil
 case hor15 =>
  simp only [qa, qb, qc];exact rfl
 have fr := Dr.f9;have fp := Dp.f9;have fR := R.f;go_simp
 clear fr fp fR;refine hK.out _ _ ?_ (fun hS => ?_)
 · exact Dp
 clear hK K
 (try simp only [Act.put, qd, qe, qf])
 refine wpAnyH_ready (rs := [5]) (by kernel_rfl) (by simp) ?_;refine' AllReadyH.cons (o := ?oor16) ?hor16 (fun K hK => ?str16) AllReadyH.nil
 case hor16 =>
  simp only [qa, qb, qc];exact rfl
 go_simp
 go_at_call 120
 refine (again_w base _ _ n1 x HL.out R.pos _ R.net).mono ?_;rintro e w5 ⟨rfl, hN, hg⟩;have Dr := grown_at hg Dr (fun e2 => by have e3 := Option.some.inj e2; omega);have Dp := grown_at hg Dp (fun e2 => by have e3 := Option.some.inj e2; omega);have R := R.rows hg (Rx.joinN_length _ _ _) hN;have P := P.grown hg;clear hN hg;have fr := Dr.f9;have fp := Dp.f9;have fR := R.f;clear fr fp fR;refine hK.out _ _ ?_ (fun hS => ?_)
 · exact Dp
 clear hK K
 (try simp only [Act.put, qd, qe, qf])
 refine wpAnyH_ready (rs := [6]) (by kernel_rfl) (by simp) ?_;refine' AllReadyH.cons (o := ?oor17) ?hor17 (fun K hK => ?str17) AllReadyH.nil
 case hor17 =>
  simp only [qa, qb, qc];exact rfl
 have fr := Dr.f9;have fp := Dp.f9;have fR := R.f;go_simp
 clear fr fp fR;have q9 := fun o0 o1 o2 o3 o4 o5 o6 o7 o8 => And.intro (Dr.puts9 o0 o1 o2 o3 o4 o5 o6 o7 o8) (And.intro (Dp.fars9 (w.heap.size) (by omega) o0 o1 o2 o3 o4 o5 o6 o7 o8) (And.intro (R.fars9 (w.heap.size) (by omega) (by omega) (by omega) o0 o1 o2 o3 o4 o5 o6 o7 o8) (P.sets9 (w.heap.size) (by omega) o0 o1 o2 o3 o4 o5 o6 o7 o8)));obtain ⟨Dr, Dp, R, P⟩ := app9 q9 (x.first) (x.last) x.none;clear q9;refine hK.out _ _ ?_ (fun hS => ?_)
 · exact Dp
 clear hK K
 (try simp only [Act.put, qd, qe, qf])
 refine tkH 7 hS ?_;refine wpAnyH_done (by kernel_rfl) ?_ _;clear hS;have fr := Dr.f9;have fp := Dp.f9;have fR := R.f;go_wp2
 refine bodyPost_ret (v := .tuple #[.agg #[.int .u64 (word (x.first) 0), .int .u64 (word (x.first) 1), .int .u64 (word (x.first) 2), .int .u64 (word (x.first) 3), .int .u64 (word (x.last) 0), .int .u64 (word (x.last) 1), .int .u64 (word (x.last) 2), .int .u64 (word (x.last) 3), .bool x.none], .int .i64 0]) (by simp [results, Tryz.results108, go_sem, fr]; try rfl) rfl ?_;exact ⟨x, 0, _, _, Rx.joinN x.last x.first n1, _, rfl, ⟨by first | exact HX.out | (rw [HX.out]; rfl), rfl, rfl, by first | exact HN.out | (rw [HX.out, HN.out]; rfl)⟩, R, P⟩
set_option maxHeartbeats 4000000 in
theorem part_o (base b g cap k : Nat) (s : ByteArray) (l : List UInt8) (n : Rx.Nt) (w : World) (deep : Int) (R : Rd base b g cap s l k n w) (hn : n.length ≤ k + 1) (at_ : Nat → Rx.Res Rx.Pt) (HA : AtomOK base b s l deep at_) (p : Rx.Pt) (i : Nat) (hr : at_ k = .ok p i) (h42 : Rx.pk l i ≠ 42) (h43 : Rx.pk l i ≠ 43) (h63 : Rx.pk l i = 63) :
  Calls Tryz.prog 108 #[.pointer (some ⟨b, 0, none⟩), .int .i64 deep] w (PU base b g w s l n (.ok (.opt p) (i + 1))) := by
 have P := Kp.refl b g w;have hl64 := R.ll;have hkl := R.kl;obtain ⟨hbs, hgs, hts⟩ := R.lt;have hb1 := R.b1;have HR := Lib.hid hr;clear hr;have H42 := Lib.hid h42;clear h42;have H43 := Lib.hid h43;clear h43;have hj := Rx.pk_lt (l := l) (k := i) (by omega);have H63 := Lib.hid h63;clear h63;go_enter Tryz.func108, Tryz.ntmps108
 go_wp2_with fail
 have uG0 := R.lt.2.1;have Dr := At.nwz _ (w) rfl;obtain ⟨R, P⟩ := (fun o => And.intro (R.alloc o) (P.alloc o)) zC;have ltr := Dr.lt;refine (HA _ _ k n _ R hn).mono ?_;rintro e w1 ⟨x, er0, g1, cap1, n1, j0, rfl, hst, R2, K2⟩;have hrow := K2.row;have qr1 : g1 ≠ w.heap.size := by omega
 have Dr := Dr.kp K2 (by omega) (by omega);have P := P.trans K2;have R := R2;clear R2 K2 hrow ltr;have fr := Dr.f9;have fR := R.f;rw [HR.out] at hst;obtain ⟨hx, rfl, hji, hn1⟩ := hst;obtain rfl : i = j0 := hji.symm;have HL := Lib.hid (last_lt p n hx hn1);have HX := Lib.hid hx;have HN := Lib.hid hn1;clear hx hn1;go_wp2_with fail
 go_wp2_with fail
 clear fr fR;have ur1 := Dr.lt;have uG1 := R.lt.2.1;have Dp := At.nwp _ (w1) (x.first) (x.last) x.none rfl;obtain ⟨Dr, R, P⟩ := (fun o => And.intro (Dr.alloc o) (And.intro (R.alloc o) (P.alloc o))) (pC (x.first) (x.last) x.none);refine (skip_no base b _ _ i s l _ _ R 42 H42.out).mono ?_;rintro e w2 ⟨rfl, hb2⟩;have Dr := Dr.below hb2;have Dp := Dp.below hb2;have R := R.below hb2;have P := P.below hb2;clear hb2;have fr := Dr.f9;have fp := Dp.f9;have fR := R.f;go_wp2_with fail
 clear fr fp fR;refine (skip_no base b _ _ i s l _ _ R 43 H43.out).mono ?_;rintro e w3 ⟨rfl, hb3⟩;have Dr := Dr.below hb3;have Dp := Dp.below hb3;have R := R.below hb3;have P := P.below hb3;clear hb3;have fr := Dr.f9;have fp := Dp.f9;have fR := R.f;go_wp2_with fail
 clear fr fp fR;have ltr := Dr.lt;have ltp := Dp.lt;refine (skip_yes base b _ _ i s l _ _ R 63 hj H63.out).mono ?_;rintro e w4 ⟨g4, cap4, rfl, R2, K2⟩;have hrow := K2.row;have qr4 : g4 ≠ w.heap.size := by omega
 have qp4 : g4 ≠ w1.heap.size := by omega
 have Dr := Dr.kp K2 (by omega) (by omega);have Dp := Dp.kp K2 (by omega) (by omega);have P := P.trans K2;have R := R2;clear R2 K2 hrow ltr ltp;have fr := Dr.f9;have fp := Dp.f9;have fR := R.f;clear fr fp fR;have fr := Dr.f9;have fp := Dp.f9;have fR := R.f;go_wp2_with fail
 clear fr fp fR;refine (perhaps_w x _).mono ?_;rintro e w5 ⟨rfl, hb5⟩;have Dr := Dr.below hb5;have Dp := Dp.below hb5;have R := R.below hb5;have P := P.below hb5;clear hb5;have fr := Dr.f9;have fp := Dp.f9;have fR := R.f;clear fr fp fR;have fr := Dr.f9;have fp := Dp.f9;have fR := R.f;go_wp2
 clear fr fp fR;have q9 := fun o0 o1 o2 o3 o4 o5 o6 o7 o8 => And.intro (Dr.puts9 o0 o1 o2 o3 o4 o5 o6 o7 o8) (And.intro (Dp.fars9 (w.heap.size) (by omega) o0 o1 o2 o3 o4 o5 o6 o7 o8) (And.intro (R.fars9 (w.heap.size) (by omega) (by omega) (by omega) o0 o1 o2 o3 o4 o5 o6 o7 o8) (P.sets9 (w.heap.size) (by omega) o0 o1 o2 o3 o4 o5 o6 o7 o8)));obtain ⟨Dr, Dp, R, P⟩ := app9 q9 (x.first) (x.last) true;clear q9;have fr := Dr.f9;have fp := Dp.f9;have fR := R.f;refine bodyPost_ret (v := .tuple #[.agg #[.int .u64 (word (x.first) 0), .int .u64 (word (x.first) 1), .int .u64 (word (x.first) 2), .int .u64 (word (x.first) 3), .int .u64 (word (x.last) 0), .int .u64 (word (x.last) 1), .int .u64 (word (x.last) 2), .int .u64 (word (x.last) 3), .bool true], .int .i64 0]) (by simp [results, Tryz.results108, go_sem, fr]; try rfl) rfl ?_;exact ⟨⟨x.first, x.last, true⟩, 0, _, _, n1, _, rfl, ⟨by first | exact HX.out | (rw [HX.out]; rfl), rfl, rfl, by first | exact HN.out | (rw [HX.out, HN.out]; rfl)⟩, R, P⟩
set_option maxHeartbeats 4000000 in
theorem part_n (base b g cap k : Nat) (s : ByteArray) (l : List UInt8) (n : Rx.Nt) (w : World) (deep : Int) (R : Rd base b g cap s l k n w) (hn : n.length ≤ k + 1) (at_ : Nat → Rx.Res Rx.Pt) (HA : AtomOK base b s l deep at_) (p : Rx.Pt) (i : Nat) (hr : at_ k = .ok p i) (h42 : Rx.pk l i ≠ 42) (h43 : Rx.pk l i ≠ 43) (h63 : Rx.pk l i ≠ 63) :
  Calls Tryz.prog 108 #[.pointer (some ⟨b, 0, none⟩), .int .i64 deep] w (PU base b g w s l n (.ok p i)) := by
 have P := Kp.refl b g w;have hl64 := R.ll;have hkl := R.kl;obtain ⟨hbs, hgs, hts⟩ := R.lt;have hb1 := R.b1;have HR := Lib.hid hr;clear hr;have H42 := Lib.hid h42;clear h42;have H43 := Lib.hid h43;clear h43;have H63 := Lib.hid h63;clear h63;go_enter Tryz.func108, Tryz.ntmps108
 go_wp2_with fail
 have uG0 := R.lt.2.1;have Dr := At.nwz _ (w) rfl;obtain ⟨R, P⟩ := (fun o => And.intro (R.alloc o) (P.alloc o)) zC;have ltr := Dr.lt;refine (HA _ _ k n _ R hn).mono ?_;rintro e w1 ⟨x, er0, g1, cap1, n1, j0, rfl, hst, R2, K2⟩;have hrow := K2.row;have qr1 : g1 ≠ w.heap.size := by omega
 have Dr := Dr.kp K2 (by omega) (by omega);have P := P.trans K2;have R := R2;clear R2 K2 hrow ltr;have fr := Dr.f9;have fR := R.f;rw [HR.out] at hst;obtain ⟨hx, rfl, hji, hn1⟩ := hst;obtain rfl : i = j0 := hji.symm;have HL := Lib.hid (last_lt p n hx hn1);have HX := Lib.hid hx;have HN := Lib.hid hn1;clear hx hn1;go_wp2_with fail
 go_wp2_with fail
 clear fr fR;have ur1 := Dr.lt;have uG1 := R.lt.2.1;have Dp := At.nwp _ (w1) (x.first) (x.last) x.none rfl;obtain ⟨Dr, R, P⟩ := (fun o => And.intro (Dr.alloc o) (And.intro (R.alloc o) (P.alloc o))) (pC (x.first) (x.last) x.none);refine (skip_no base b _ _ i s l _ _ R 42 H42.out).mono ?_;rintro e w2 ⟨rfl, hb2⟩;have Dr := Dr.below hb2;have Dp := Dp.below hb2;have R := R.below hb2;have P := P.below hb2;clear hb2;have fr := Dr.f9;have fp := Dp.f9;have fR := R.f;go_wp2_with fail
 clear fr fp fR;refine (skip_no base b _ _ i s l _ _ R 43 H43.out).mono ?_;rintro e w3 ⟨rfl, hb3⟩;have Dr := Dr.below hb3;have Dp := Dp.below hb3;have R := R.below hb3;have P := P.below hb3;clear hb3;have fr := Dr.f9;have fp := Dp.f9;have fR := R.f;go_wp2_with fail
 clear fr fp fR;refine (skip_no base b _ _ i s l _ _ R 63 H63.out).mono ?_;rintro e w4 ⟨rfl, hb4⟩;have Dr := Dr.below hb4;have Dp := Dp.below hb4;have R := R.below hb4;have P := P.below hb4;clear hb4;have fr := Dr.f9;have fp := Dp.f9;have fR := R.f;clear fr fp fR;have fr := Dr.f9;have fp := Dp.f9;have fR := R.f;go_wp2
 clear fr fp fR;have q9 := fun o0 o1 o2 o3 o4 o5 o6 o7 o8 => And.intro (Dr.puts9 o0 o1 o2 o3 o4 o5 o6 o7 o8) (And.intro (Dp.fars9 (w.heap.size) (by omega) o0 o1 o2 o3 o4 o5 o6 o7 o8) (And.intro (R.fars9 (w.heap.size) (by omega) (by omega) (by omega) o0 o1 o2 o3 o4 o5 o6 o7 o8) (P.sets9 (w.heap.size) (by omega) o0 o1 o2 o3 o4 o5 o6 o7 o8)));obtain ⟨Dr, Dp, R, P⟩ := app9 q9 (x.first) (x.last) x.none;clear q9;have fr := Dr.f9;have fp := Dp.f9;have fR := R.f;refine bodyPost_ret (v := .tuple #[.agg #[.int .u64 (word (x.first) 0), .int .u64 (word (x.first) 1), .int .u64 (word (x.first) 2), .int .u64 (word (x.first) 3), .int .u64 (word (x.last) 0), .int .u64 (word (x.last) 1), .int .u64 (word (x.last) 2), .int .u64 (word (x.last) 3), .bool x.none], .int .i64 0]) (by simp [results, Tryz.results108, go_sem, fr]; try rfl) rfl ?_;exact ⟨x, 0, _, _, n1, _, rfl, ⟨by first | exact HX.out | (rw [HX.out]; rfl), rfl, rfl, by first | exact HN.out | (rw [HX.out, HN.out]; rfl)⟩, R, P⟩
theorem part_any (base b : Nat) (s : ByteArray) (l : List UInt8) (deep : Int) (inner : Nat → Rx.Res Rx.Pt) (hi : ∀ k, Rx.pk l k = 40 → Rx.Goes l k (inner k) (Rx.Few k)) (HA : AtomOK base b s l deep (Rx.atomF inner l)) : PartOK base b s l deep (Rx.partF inner l) := by
 intro g cap k n w R hn;have ga := Rx.atom_goes hi R.kl;unfold Rx.partF;cases hr : Rx.atomF inner l k with
 | bad er j => rw [hr] at ga; exact part_a base b g cap k s l n w deep R hn _ HA er j hr ga.2.2
 | ok p i =>
  dsimp only;by_cases h1 : Rx.pk l i = 42
  ·
   rw [if_pos h1]; exact part_s base b g cap k s l n w deep R hn _ HA p i hr h1
  ·
   rw [if_neg h1];by_cases h2 : Rx.pk l i = 43
   ·
    rw [if_pos h2]; exact part_p base b g cap k s l n w deep R hn _ HA p i hr h1 h2
   ·
    rw [if_neg h2];by_cases h3 : Rx.pk l i = 63
    ·
     rw [if_pos h3]; exact part_o base b g cap k s l n w deep R hn _ HA p i hr h1 h2 h3
    ·
     rw [if_neg h3]; exact part_n base b g cap k s l n w deep R hn _ HA p i hr h1 h2 h3
end Go.Proofs.YthdoniefjmphaaaGreatDoor
