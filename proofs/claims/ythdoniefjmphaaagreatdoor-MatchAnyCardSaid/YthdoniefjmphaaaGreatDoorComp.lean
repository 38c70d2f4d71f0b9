/- regex's reader: choice. -/
import Derived.Test.YthdoniefjmphaaaGreatDoorRow
import Derived.Test.YthdoniefjmphaaaGreatDoorEither
namespace Go.Proofs.YthdoniefjmphaaaGreatDoor
open Go Go.Proofs Go.RowKit Go.Shelf
set_option maxRecDepth 100000
attribute [local go_sem] cell_set
def ChoiceOK (base b : Nat) (s : ByteArray) (l : List UInt8) (deep : Int) (at_ : Nat → Rx.Res Rx.Pt) : Prop :=
 ∀ (g cap k : Nat) (n : Rx.Nt) (w : World), Rd base b g cap s l k n w → n.length ≤ k + 1 → Calls Tryz.prog 72 #[.pointer (some ⟨b, 0, none⟩), .int .i64 deep] w (PU base b g w s l n (at_ k))
def altP (x y : Rx.Pce) : Rx.Pce := ⟨x.first ||| y.first, x.last ||| y.last, x.none || y.none⟩
def ChSt (inner : Nat → Rx.Res Rx.Pt) (l : List UInt8) (T : Rx.Res Rx.Pt) (n : Rx.Nt) (x : Rx.Pce) (er : Int) (j : Nat) (n1 : Rx.Nt) : Prop :=
 (er = 0 ∧ n1.length ≤ j + 1 ∧ ∃ f acc, T = Rx.choiceL inner l f j acc ∧ l.length - j < f ∧ x = (Rx.build acc n).1 ∧ n1 = (Rx.build acc n).2) ∨ (∃ e : Nat, er = (e : Int) ∧ (e = 2 ∨ e = 4) ∧ T = .bad e j ∧ n.length ≤ n1.length)
theorem build_nil (p : Rx.Pt) (n : Rx.Nt) : Rx.build (.alt .nil p) n = Rx.build p n := by
 simp only [Rx.build, Nat.zero_or, Bool.false_or]
theorem choice_start {inner : Nat → Rx.Res Rx.Pt} {l : List UInt8} (hi : ∀ k, Rx.pk l k = 40 → Rx.Goes l k (inner k) (Rx.Few k)) {n n1 : Rx.Nt} {x : Rx.Pce} {er : Int} {k j : Nat} (hk : k ≤ l.length) (hn : n.length ≤ k + 1) (h : PSt n (Rx.rowF inner l k) x er j n1) : ChSt inner l (Rx.choiceF inner l k) n x er j n1 := by
 have g := Rx.row_goes hi hk;unfold Rx.choiceF;cases hr : Rx.rowF inner l k with
 | ok p i =>
  rw [hr] at h g;obtain ⟨h1, h2, h3, h4⟩ := h;obtain ⟨g1, g2, g3⟩ := g;subst h3;unfold Rx.Few at g3;refine .inl ⟨h2, ?_, l.length + 1, .alt .nil p, rfl, by omega, by rw [build_nil]; exact h1, by rw [build_nil]; exact h4⟩;rw [h4, Rx.build_length]; omega
 | bad e i =>
  rw [hr] at h g;obtain ⟨h1, h2, h3⟩ := h;subst h2;exact .inr ⟨e, h1, g.2.2, rfl, h3⟩
theorem choice_step {inner : Nat → Rx.Res Rx.Pt} {l : List UInt8} (hi : ∀ k, Rx.pk l k = 40 → Rx.Goes l k (inner k) (Rx.Few k)) {T : Rx.Res Rx.Pt} {n n1 n2 : Rx.Nt} {x x2 : Rx.Pce} {er2 : Int} {f j j2 : Nat} {acc : Rx.Pt} (hj : j < l.length) (hn1 : n1.length ≤ j + 1) (hT : T = Rx.choiceL inner l f j acc) (hf : l.length - j < f) (hx : x = (Rx.build acc n).1) (hn : n1 = (Rx.build acc n).2) (he : Rx.pk l j = 124) (h : PSt n1 (Rx.rowF inner l (j + 1)) x2 er2 j2 n2) :
  ChSt inner l T n (altP x x2) er2 j2 n2 ∧ j < j2 := by
 obtain ⟨f, rfl⟩ : ∃ f', f = f' + 1 := ⟨f - 1, by omega⟩;have g := Rx.row_goes hi (l := l) (k := j + 1) (by omega);have nl : n.length ≤ n1.length := by rw [hn, Rx.build_length]; omega
 unfold Rx.choiceL at hT;rw [if_pos he] at hT;cases hr : Rx.rowF inner l (j + 1) with
 | ok p i =>
  rw [hr] at h g hT;obtain ⟨h1, h2, h3, h4⟩ := h;obtain ⟨g1, g2, g3⟩ := g;subst h3;unfold Rx.Few at g3;refine ⟨.inl ⟨h2, by rw [h4, Rx.build_length]; omega, f, .alt acc p, hT, by omega, ?_, ?_⟩, by omega⟩
  ·
   rw [hx, h1, hn]; rfl
  ·
   rw [h4, hn]; rfl
 | bad e i =>
  rw [hr] at h g hT;obtain ⟨h1, h2, h3⟩ := h;subst h2;exact ⟨.inr ⟨e, h1, g.2.2, hT, by omega⟩, by have := g.1; omega⟩
theorem choice_over {inner : Nat → Rx.Res Rx.Pt} {l : List UInt8} {T : Rx.Res Rx.Pt} {n n1 : Rx.Nt} {x : Rx.Pce} {f j : Nat} {acc : Rx.Pt} (hT : T = Rx.choiceL inner l f j acc) (hf : l.length - j < f) (hx : x = (Rx.build acc n).1) (hn : n1 = (Rx.build acc n).2) (he : Rx.pk l j ≠ 124) : PSt n T x 0 j n1 := by
 obtain ⟨f, rfl⟩ : ∃ f', f = f' + 1 := ⟨f - 1, by omega⟩;unfold Rx.choiceL at hT;rw [if_neg he] at hT;subst hT;exact ⟨hx, rfl, rfl, hn⟩
theorem either_w (x y : Rx.Pce) (w : World) :
  Calls Tryz.prog 94 #[.agg #[.int .u64 (word (x.first) 0), .int .u64 (word (x.first) 1), .int .u64 (word (x.first) 2), .int .u64 (word (x.first) 3), .int .u64 (word (x.last) 0), .int .u64 (word (x.last) 1), .int .u64 (word (x.last) 2), .int .u64 (word (x.last) 3), .bool x.none], .agg #[.int .u64 (word (y.first) 0), .int .u64 (word (y.first) 1), .int .u64 (word (y.first) 2), .int .u64 (word (y.first) 3), .int .u64 (word (y.last) 0), .int .u64 (word (y.last) 1), .int .u64 (word (y.last) 2), .int .u64 (word (y.last) 3), .bool y.none]] w fun e w' => e = .returned (.agg #[.int .u64 (word ((altP x y).first) 0), .int .u64 (word ((altP x y).first) 1), .int .u64 (word ((altP x y).first) 2), .int .u64 (word ((altP x y).first) 3), .int .u64 (word ((altP x y).last) 0), .int .u64 (word ((altP x y).last) 1), .int .u64 (word ((altP x y).last) 2), .int .u64 (word ((altP x y).last) 3), .bool (altP x y).none]) ∧ Below w.heap.size w w' := either_any x y w
set_option maxHeartbeats 8000000 in
theorem choice_any (base b : Nat) (s : ByteArray) (l : List UInt8) (deep : Int) (inner : Nat → Rx.Res Rx.Pt) (hi : ∀ k, Rx.pk l k = 40 → Rx.Goes l k (inner k) (Rx.Few k)) (HA : RowOK base b s l deep (Rx.rowF inner l)) : ChoiceOK base b s l deep (Rx.choiceF inner l) := by
 intro g cap k n w R hn;have P := Kp.refl b g w;have hl64 := R.ll;have hkl := R.kl;obtain ⟨hbs, hgs, hts⟩ := R.lt;have hb1 := R.b1;have hst0 := fun x er j n1 h => choice_start hi (n := n) (x := x) (er := er) (j := j) (n1 := n1) hkl hn h
 have HST0 := Lib.hid hst0;clear hst0;generalize hT0 : Rx.choiceF inner l k = T at *;clear hT0;go_enter Tryz.func72, Tryz.ntmps72
 go_wp2_with fail
 have uG0 := R.lt.2.1;have Dr := At.nwz _ (w) rfl;obtain ⟨R, P⟩ := (fun o => And.intro (R.alloc o) (P.alloc o)) zC;have ltr := Dr.lt;refine (HA _ _ k n _ R hn).mono ?_;rintro e w1 ⟨x, er, g1, cap1, n1, j, rfl, hst, R2, K2⟩;have hrow := K2.row;have qr1 : g1 ≠ w.heap.size := by omega
 have Dr := Dr.kp K2 (by omega) (by omega);have P := P.trans K2;have R := R2;clear R2 K2 hrow ltr;have fr := Dr.f9;have fR := R.f;have hst := HST0.out _ _ _ _ hst;have HST := Lib.hid hst;clear hst HST0;clear fr fR;have fr := Dr.f9;have fR := R.f;go_wp2_with fail
 clear fr fR;have ur1 := Dr.lt;have uG1 := R.lt.2.1;have Da := At.nwp _ (w1) (x.first) (x.last) x.none rfl;obtain ⟨Dr, R, P⟩ := (fun o => And.intro (Dr.alloc o) (And.intro (R.alloc o) (P.alloc o))) (pC (x.first) (x.last) x.none);generalize (w1).alloc (pC (x.first) (x.last) x.none) = wl at *;have hsep := ur1;have hgm := uG1;generalize w1.heap.size = ba at *;go_loopw [7] (fun e7 wr => ∃ (x : Rx.Pce) (er : Int) (j g1 cap1 : Nat) (n1 : Rx.Nt), e7 = .int .i64 er ∧ ChSt inner l T n x er j n1 ∧ g1 ≠ ba ∧ g1 ≠ w.heap.size ∧ ba < wr.heap.size ∧ At wr ba (pL (x.first) (x.last) x.none) ∧ At wr w.heap.size zL ∧ Rd base b g1 cap1 s l j n1 wr ∧ Kp b g w g1 wr) (fun e7 wr => l.length - placeOf wr b)
 case atStart => exact ⟨x, er, j, _, _, n1, rfl, HST.out, by omega, by omega, Da.lt, Da, Dr, R, P⟩
 case round =>
  clear Da Dr R P HST;obtain ⟨x, er, j, g0, cap0, n1, rfl, hst, hq1, hq2, hz, Da, Dr, R, P⟩ := hrel;have hMM := place_rd R;have HM := Lib.hid hMM;clear hMM;have hjl := R.kl;have hz2 := Dr.lt;rcases hst with ⟨rfl, hnl, f, acc, hT, hf, hx, hn1⟩ | ⟨er, rfl, her, hT, hlen⟩
  ·
   have HX := Lib.hid hx;have HN := Lib.hid hn1;clear hx hn1;by_cases h124 : Rx.pk l j = 124
   ·
    have hj := Rx.pk_lt (l := l) (k := j) (by omega);have HSTEP := Lib.hid (fun x2 er2 j2 n2 h => choice_step hi (x2 := x2) (er2 := er2) (j2 := j2) (n2 := n2) hj hnl hT hf HX.out HN.out h124 h);have H124 := Lib.hid h124;clear hT HX HN h124;have fr := Dr.f9;have fa := Da.f9;have fR := R.f;go_wp2_with fail
    clear fr fa fR;have ltr := Dr.lt;have lta := Da.lt;refine (skip_yes base b _ _ j s l _ _ R 124 hj H124.out).mono ?_;rintro e w2 ⟨g2, cap2, rfl, R2, K2⟩;have hrow := K2.row;have qr2 : g2 ≠ w.heap.size := by omega
    have qa2 : g2 ≠ ba := by omega
    have Dr := Dr.kp K2 (by omega) (by omega);have Da := Da.kp K2 (by omega) (by omega);have P := P.trans K2;have R := R2;clear R2 K2 hrow ltr lta;have fr := Dr.f9;have fa := Da.f9;have fR := R.f;go_wp2_with fail
    clear fr fa fR;have ur2 := Dr.lt;have ua2 := Da.lt;have uG2 := R.lt.2.1;have Do := At.nwz _ (w2) rfl;obtain ⟨Dr, Da, R, P⟩ := (fun o => And.intro (Dr.alloc o) (And.intro (Da.alloc o) (And.intro (R.alloc o) (P.alloc o)))) zC;have ltr := Dr.lt;have lta := Da.lt;have lto := Do.lt;refine (HA _ _ (j + 1) n1 _ R (by omega)).mono ?_;rintro e w3 ⟨x2, er2, g3, cap3, n2, j2, rfl, hst, R2, K2⟩;have hrow := K2.row;have qr3 : g3 ≠ w.heap.size := by omega
    have qa3 : g3 ≠ ba := by omega
    have qo3 : g3 ≠ w2.heap.size := by omega
    have Dr := Dr.kp K2 (by omega) (by omega);have Da := Da.kp K2 (by omega) (by omega);have Do := Do.kp K2 (by omega) (by omega);have P := P.trans K2;have R := R2;clear R2 K2 hrow ltr lta lto;have fr := Dr.f9;have fa := Da.f9;have fo := Do.f9;have fR := R.f;have hst := HSTEP.out _ _ _ _ hst;have HST := Lib.hid hst;clear hst HSTEP;clear fr fa fo fR;have fr := Dr.f9;have fa := Da.f9;have fo := Do.f9;have fR := R.f;go_wp2_with fail
    clear fr fa fo fR;have q9 := fun o0 o1 o2 o3 o4 o5 o6 o7 o8 => And.intro (Dr.fars9 (w2.heap.size) (by omega) o0 o1 o2 o3 o4 o5 o6 o7 o8) (And.intro (Da.fars9 (w2.heap.size) (by omega) o0 o1 o2 o3 o4 o5 o6 o7 o8) (And.intro (Do.puts9 o0 o1 o2 o3 o4 o5 o6 o7 o8) (And.intro (R.fars9 (w2.heap.size) (by omega) (by omega) (by omega) o0 o1 o2 o3 o4 o5 o6 o7 o8) (P.sets9 (w2.heap.size) (by omega) o0 o1 o2 o3 o4 o5 o6 o7 o8))));obtain ⟨Dr, Da, Do, R, P⟩ := app9 q9 (x2.first) (x2.last) x2.none;clear q9;refine (either_w x x2 _).mono ?_;rintro e w4 ⟨rfl, hb4⟩;have Dr := Dr.below hb4;have Da := Da.below hb4;have Do := Do.below hb4;have R := R.below hb4;have P := P.below hb4;clear hb4;have fr := Dr.f9;have fa := Da.f9;have fo := Do.f9;have fR := R.f;clear fr fa fo fR;have fr := Dr.f9;have fa := Da.f9;have fo := Do.f9;have fR := R.f;go_wp2
    clear fr fa fo fR;obtain ⟨Dr, Da, Do, R, P⟩ := (fun o0 o1 o2 o3 o4 o5 o6 o7 o8 => And.intro (Dr.fars9 ba (by omega) o0 o1 o2 o3 o4 o5 o6 o7 o8) (And.intro (Da.puts9 o0 o1 o2 o3 o4 o5 o6 o7 o8) (And.intro (Do.fars9 ba (by omega) o0 o1 o2 o3 o4 o5 o6 o7 o8) (And.intro (R.fars9 ba (by omega) (by omega) (by omega) o0 o1 o2 o3 o4 o5 o6 o7 o8) (P.sets9 ba (by omega) o0 o1 o2 o3 o4 o5 o6 o7 o8))))) (.int .u64 (word ((altP x x2).first) 0)) (.int .u64 (word ((altP x x2).first) 1)) (.int .u64 (word ((altP x x2).first) 2)) (.int .u64 (word ((altP x x2).first) 3)) (.int .u64 (word ((altP x x2).last) 0)) (.int .u64 (word ((altP x x2).last) 1)) (.int .u64 (word ((altP x x2).last) 2)) (.int .u64 (word ((altP x x2).last) 3)) (.bool (altP x x2).none);have hM2 := place_rd R;have hz3 := Da.lt;have hM1 := HM.out;go_roundw
    case rel => exact ⟨altP x x2, er2, j2, _, _, n2, rfl, HST.out.1, by omega, by omega, hz3, Da, Dr, R, P⟩
    case measure =>
     have h := HST.out.2;have hjl2 := R.kl;simp only [hM1, hM2];omega
   ·
    have hov := choice_over hT hf HX.out HN.out h124;have HOV := Lib.hid hov;have H124 := Lib.hid h124;clear hov hT HX HN h124;have fr := Dr.f9;have fa := Da.f9;have fR := R.f;go_wp2_with fail
    clear fr fa fR;refine (skip_no base b _ _ j s l _ _ R 124 H124.out).mono ?_;rintro e w2 ⟨rfl, hb2⟩;have Dr := Dr.below hb2;have Da := Da.below hb2;have R := R.below hb2;have P := P.below hb2;clear hb2;have fr := Dr.f9;have fa := Da.f9;have fR := R.f;clear fr fa fR;have fr := Dr.f9;have fa := Da.f9;have fR := R.f;go_wp2
    clear fr fa fR;have q9 := fun o0 o1 o2 o3 o4 o5 o6 o7 o8 => And.intro (Dr.puts9 o0 o1 o2 o3 o4 o5 o6 o7 o8) (And.intro (Da.fars9 (w.heap.size) (by omega) o0 o1 o2 o3 o4 o5 o6 o7 o8) (And.intro (R.fars9 (w.heap.size) (by omega) (by omega) (by omega) o0 o1 o2 o3 o4 o5 o6 o7 o8) (P.sets9 (w.heap.size) (by omega) o0 o1 o2 o3 o4 o5 o6 o7 o8)));obtain ⟨Dr, Da, R, P⟩ := app9 q9 (x.first) (x.last) x.none;clear q9;have fr := Dr.f9;have fa := Da.f9;have fR := R.f;refine bodyPost_ret (v := .tuple #[.agg #[.int .u64 (word (x.first) 0), .int .u64 (word (x.first) 1), .int .u64 (word (x.first) 2), .int .u64 (word (x.first) 3), .int .u64 (word (x.last) 0), .int .u64 (word (x.last) 1), .int .u64 (word (x.last) 2), .int .u64 (word (x.last) 3), .bool x.none], .int .i64 0]) (by simp [results, Tryz.results72, go_sem, fr]; try rfl) rfl ?_;exact ⟨x, 0, _, _, n1, j, rfl, HOV.out, R, P⟩
  ·
   have hne : ((er : Int) == 0) = false := by rw [beq_eq_false_iff_ne]; omega
   have hov : PSt n T x (er : Int) j n1 := by rw [hT]; exact ⟨rfl, rfl, hlen⟩
   have HOV := Lib.hid hov;clear hov hT;have fr := Dr.f9;have fa := Da.f9;have fR := R.f;go_wp2
   clear fr fa fR;have q9 := fun o0 o1 o2 o3 o4 o5 o6 o7 o8 => And.intro (Dr.puts9 o0 o1 o2 o3 o4 o5 o6 o7 o8) (And.intro (Da.fars9 (w.heap.size) (by omega) o0 o1 o2 o3 o4 o5 o6 o7 o8) (And.intro (R.fars9 (w.heap.size) (by omega) (by omega) (by omega) o0 o1 o2 o3 o4 o5 o6 o7 o8) (P.sets9 (w.heap.size) (by omega) o0 o1 o2 o3 o4 o5 o6 o7 o8)));obtain ⟨Dr, Da, R, P⟩ := app9 q9 (x.first) (x.last) x.none;clear q9;have fr := Dr.f9;have fa := Da.f9;have fR := R.f;refine bodyPost_ret (v := .tuple #[.agg #[.int .u64 (word (x.first) 0), .int .u64 (word (x.first) 1), .int .u64 (word (x.first) 2), .int .u64 (word (x.first) 3), .int .u64 (word (x.last) 0), .int .u64 (word (x.last) 1), .int .u64 (word (x.last) 2), .int .u64 (word (x.last) 3), .bool x.none], .int .i64 (er : Int)]) (by simp [results, Tryz.results72, go_sem, fr]; try rfl) rfl ?_;exact ⟨x, (er : Int), _, _, n1, j, rfl, HOV.out, R, P⟩
end Go.Proofs.YthdoniefjmphaaaGreatDoor
/- regex's reader: inner; all of the reading. -/
namespace Go.Proofs.YthdoniefjmphaaaGreatDoor
open Go Go.Proofs Go.RowKit Go.Shelf
set_option maxRecDepth 100000
attribute [local go_sem] cell_set
set_option maxHeartbeats 4000000 in
theorem inner_z (base b g cap k : Nat) (s : ByteArray) (l : List UInt8) (n : Rx.Nt) (w : World) (R : Rd base b g cap s l k n w)  :
  Calls Tryz.prog 124 #[.pointer (some ⟨b, 0, none⟩), .int .i64 9] w (PU base b g w s l n (.bad 4 k)) := by
 have P := Kp.refl b g w;have hl64 := R.ll;have hkl := R.kl;obtain ⟨hbs, hgs, hts⟩ := R.lt;have hb1 := R.b1;go_enter Tryz.func124, Tryz.ntmps124
 go_wp2
 have uG0 := R.lt.2.1;have Dr := At.nwz _ (w) rfl;obtain ⟨R, P⟩ := (fun o => And.intro (R.alloc o) (P.alloc o)) zC;have fr := Dr.f9;have fR := R.f;refine bodyPost_ret (v := .tuple #[.agg #[.int .u64 0, .int .u64 0, .int .u64 0, .int .u64 0, .int .u64 0, .int .u64 0, .int .u64 0, .int .u64 0, .bool false], .int .i64 4]) (by simp [results, Tryz.results124, go_sem, fr]; try rfl) rfl ?_;exact ⟨zeroP, 4, _, _, n, _, by simp only [word_zero], ⟨rfl, rfl, Nat.le_refl _⟩, R, P⟩
set_option maxHeartbeats 4000000 in
theorem inner_b (base b g cap k : Nat) (s : ByteArray) (l : List UInt8) (n : Rx.Nt) (w : World) (R : Rd base b g cap s l k n w) (hn : n.length ≤ k + 1) (d : Int) (hd : 0 ≤ d ∧ d ≤ 8) (at_ : Nat → Rx.Res Rx.Pt) (HC : ChoiceOK base b s l (d + 1) at_) (h40 : Rx.pk l k = 40) (er i : Nat) (hr : at_ (k + 1) = .bad er i) (he : er = 2 ∨ er = 4) :
  Calls Tryz.prog 124 #[.pointer (some ⟨b, 0, none⟩), .int .i64 d] w (PU base b g w s l n (.bad er i)) := by
 have P := Kp.refl b g w;have hl64 := R.ll;have hkl := R.kl;obtain ⟨hbs, hgs, hts⟩ := R.lt;have hb1 := R.b1;have hk := Rx.pk_lt (l := l) (k := k) (by omega);have HR := Lib.hid hr;have hdg : decide (8 < d) = false := decide_eq_false (by omega);clear hr h40;have hne : ((er : Int) == 0) = false := by rw [beq_eq_false_iff_ne]; omega
 have fR := R.f;go_enter Tryz.func124, Tryz.ntmps124
 go_wp2_with fail
 clear fR;have uG0 := R.lt.2.1;have Dr := At.nwz (w.heap.size) ((w).setCell ⟨b, 1, none⟩ (.int .i64 ((k + 1 : Nat) : Int)));have R := ((R.move (k' := k + 1) (by omega)).alloc zC);have P := ((P.setCell (p := ⟨b, 1, none⟩) (.inr rfl) (.int .i64 ((k + 1 : Nat) : Int))).alloc zC);have ltr := Dr.lt;refine (HC _ _ (k + 1) n _ R (by omega)).mono ?_;rintro e w1 ⟨x, er0, g1, cap1, n1, j0, rfl, hst, R2, K2⟩;have hrow := K2.row;have qr1 : g1 ≠ w.heap.size := by omega
 have Dr := Dr.kp K2 (by omega) (by omega);have P := P.trans K2;have R := R2;clear R2 K2 hrow ltr;have fr := Dr.f9;have fR := R.f;rw [HR.out] at hst;obtain ⟨rfl, hji, hlen⟩ := hst;obtain rfl : i = j0 := hji.symm;clear fr fR;have fr := Dr.f9;have fR := R.f;go_upto_region 5 with (fail)
 clear fr fR;have ur1 := Dr.lt;have uG1 := R.lt.2.1;have Da := At.nwp _ (w1) (x.first) (x.last) x.none rfl;obtain ⟨Dr, R, P⟩ := (fun o => And.intro (Dr.alloc o) (And.intro (R.alloc o) (P.alloc o))) (pC (x.first) (x.last) x.none);generalize (w1).alloc (pC (x.first) (x.last) x.none) = w8 at *;have fr := Dr.f9;have fa := Da.f9;have fR := R.f;go_wp2
 clear fr fa fR;have q9 := fun o0 o1 o2 o3 o4 o5 o6 o7 o8 => And.intro (Dr.puts9 o0 o1 o2 o3 o4 o5 o6 o7 o8) (And.intro (Da.fars9 (w.heap.size) (by omega) o0 o1 o2 o3 o4 o5 o6 o7 o8) (And.intro (R.fars9 (w.heap.size) (by omega) (by omega) (by omega) o0 o1 o2 o3 o4 o5 o6 o7 o8) (P.sets9 (w.heap.size) (by omega) o0 o1 o2 o3 o4 o5 o6 o7 o8)));obtain ⟨Dr, Da, R, P⟩ := app9 q9 (x.first) (x.last) x.none;clear q9;have fr := Dr.f9;have fa := Da.f9;have fR := R.f;refine bodyPost_ret (v := .tuple #[.agg #[.int .u64 (word (x.first) 0), .int .u64 (word (x.first) 1), .int .u64 (word (x.first) 2), .int .u64 (word (x.first) 3), .int .u64 (word (x.last) 0), .int .u64 (word (x.last) 1), .int .u64 (word (x.last) 2), .int .u64 (word (x.last) 3), .bool x.none], .int .i64 (er : Int)]) (by simp [results, Tryz.results124, go_sem, fr]; try rfl) rfl ?_;exact ⟨x, (er : Int), _, _, n1, _, rfl, ⟨rfl, rfl, hlen⟩, R, P⟩
set_option maxHeartbeats 4000000 in
theorem inner_y (base b g cap k : Nat) (s : ByteArray) (l : List UInt8) (n : Rx.Nt) (w : World) (R : Rd base b g cap s l k n w) (hn : n.length ≤ k + 1) (d : Int) (hd : 0 ≤ d ∧ d ≤ 8) (at_ : Nat → Rx.Res Rx.Pt) (HC : ChoiceOK base b s l (d + 1) at_) (h40 : Rx.pk l k = 40) (p : Rx.Pt) (i : Nat) (hr : at_ (k + 1) = .ok p i) (h41 : Rx.pk l i = 41) :
  Calls Tryz.prog 124 #[.pointer (some ⟨b, 0, none⟩), .int .i64 d] w (PU base b g w s l n (.ok p (i + 1))) := by
 have P := Kp.refl b g w;have hl64 := R.ll;have hkl := R.kl;obtain ⟨hbs, hgs, hts⟩ := R.lt;have hb1 := R.b1;have hk := Rx.pk_lt (l := l) (k := k) (by omega);have HR := Lib.hid hr;have hdg : decide (8 < d) = false := decide_eq_false (by omega);clear hr h40;have hi := Rx.pk_lt (l := l) (k := i) (by omega);have H41 := Lib.hid h41;clear h41;have fR := R.f;go_enter Tryz.func124, Tryz.ntmps124
 go_wp2_with fail
 clear fR;have uG0 := R.lt.2.1;have Dr := At.nwz (w.heap.size) ((w).setCell ⟨b, 1, none⟩ (.int .i64 ((k + 1 : Nat) : Int)));have R := ((R.move (k' := k + 1) (by omega)).alloc zC);have P := ((P.setCell (p := ⟨b, 1, none⟩) (.inr rfl) (.int .i64 ((k + 1 : Nat) : Int))).alloc zC);have ltr := Dr.lt;refine (HC _ _ (k + 1) n _ R (by omega)).mono ?_;rintro e w1 ⟨x, er0, g1, cap1, n1, j0, rfl, hst, R2, K2⟩;have hrow := K2.row;have qr1 : g1 ≠ w.heap.size := by omega
 have Dr := Dr.kp K2 (by omega) (by omega);have P := P.trans K2;have R := R2;clear R2 K2 hrow ltr;have fr := Dr.f9;have fR := R.f;rw [HR.out] at hst;obtain ⟨hx, rfl, hji, hn1⟩ := hst;obtain rfl : i = j0 := hji.symm;have HX := Lib.hid hx;have HN := Lib.hid hn1;clear hx hn1;clear fr fR;have fr := Dr.f9;have fR := R.f;go_wp2_with fail
 clear fr fR;have ur1 := Dr.lt;have uG1 := R.lt.2.1;have Da := At.nwp _ (w1) (x.first) (x.last) x.none rfl;obtain ⟨Dr, R, P⟩ := (fun o => And.intro (Dr.alloc o) (And.intro (R.alloc o) (P.alloc o))) (pC (x.first) (x.last) x.none);have ltr := Dr.lt;have lta := Da.lt;refine (skip_yes base b _ _ i s l _ _ R 41 hi H41.out).mono ?_;rintro e w2 ⟨g2, cap2, rfl, R2, K2⟩;have hrow := K2.row;have qr2 : g2 ≠ w.heap.size := by omega
 have qa2 : g2 ≠ w1.heap.size := by omega
 have Dr := Dr.kp K2 (by omega) (by omega);have Da := Da.kp K2 (by omega) (by omega);have P := P.trans K2;have R := R2;clear R2 K2 hrow ltr lta;have fr := Dr.f9;have fa := Da.f9;have fR := R.f;clear fr fa fR;have fr := Dr.f9;have fa := Da.f9;have fR := R.f;go_wp2
 clear fr fa fR;have q9 := fun o0 o1 o2 o3 o4 o5 o6 o7 o8 => And.intro (Dr.puts9 o0 o1 o2 o3 o4 o5 o6 o7 o8) (And.intro (Da.fars9 (w.heap.size) (by omega) o0 o1 o2 o3 o4 o5 o6 o7 o8) (And.intro (R.fars9 (w.heap.size) (by omega) (by omega) (by omega) o0 o1 o2 o3 o4 o5 o6 o7 o8) (P.sets9 (w.heap.size) (by omega) o0 o1 o2 o3 o4 o5 o6 o7 o8)));obtain ⟨Dr, Da, R, P⟩ := app9 q9 (x.first) (x.last) x.none;clear q9;have fr := Dr.f9;have fa := Da.f9;have fR := R.f;refine bodyPost_ret (v := .tuple #[.agg #[.int .u64 (word (x.first) 0), .int .u64 (word (x.first) 1), .int .u64 (word (x.first) 2), .int .u64 (word (x.first) 3), .int .u64 (word (x.last) 0), .int .u64 (word (x.last) 1), .int .u64 (word (x.last) 2), .int .u64 (word (x.last) 3), .bool x.none], .int .i64 0]) (by simp [results, Tryz.results124, go_sem, fr]; try rfl) rfl ?_;exact ⟨x, 0, _, _, n1, _, rfl, ⟨HX.out, rfl, rfl, HN.out⟩, R, P⟩
set_option maxHeartbeats 4000000 in
theorem inner_n (base b g cap k : Nat) (s : ByteArray) (l : List UInt8) (n : Rx.Nt) (w : World) (R : Rd base b g cap s l k n w) (hn : n.length ≤ k + 1) (d : Int) (hd : 0 ≤ d ∧ d ≤ 8) (at_ : Nat → Rx.Res Rx.Pt) (HC : ChoiceOK base b s l (d + 1) at_) (h40 : Rx.pk l k = 40) (p : Rx.Pt) (i : Nat) (hr : at_ (k + 1) = .ok p i) (h41 : Rx.pk l i ≠ 41) :
  Calls Tryz.prog 124 #[.pointer (some ⟨b, 0, none⟩), .int .i64 d] w (PU base b g w s l n (.bad 2 i)) := by
 have P := Kp.refl b g w;have hl64 := R.ll;have hkl := R.kl;obtain ⟨hbs, hgs, hts⟩ := R.lt;have hb1 := R.b1;have hk := Rx.pk_lt (l := l) (k := k) (by omega);have HR := Lib.hid hr;have hdg : decide (8 < d) = false := decide_eq_false (by omega);clear hr h40;have H41 := Lib.hid h41;clear h41;have fR := R.f;go_enter Tryz.func124, Tryz.ntmps124
 go_wp2_with fail
 clear fR;have uG0 := R.lt.2.1;have Dr := At.nwz (w.heap.size) ((w).setCell ⟨b, 1, none⟩ (.int .i64 ((k + 1 : Nat) : Int)));have R := ((R.move (k' := k + 1) (by omega)).alloc zC);have P := ((P.setCell (p := ⟨b, 1, none⟩) (.inr rfl) (.int .i64 ((k + 1 : Nat) : Int))).alloc zC);have ltr := Dr.lt;refine (HC _ _ (k + 1) n _ R (by omega)).mono ?_;rintro e w1 ⟨x, er0, g1, cap1, n1, j0, rfl, hst, R2, K2⟩;have hrow := K2.row;have qr1 : g1 ≠ w.heap.size := by omega
 have Dr := Dr.kp K2 (by omega) (by omega);have P := P.trans K2;have R := R2;clear R2 K2 hrow ltr;have fr := Dr.f9;have fR := R.f;rw [HR.out] at hst;obtain ⟨hx, rfl, hji, hn1⟩ := hst;obtain rfl : i = j0 := hji.symm;have HX := Lib.hid hx;have HN := Lib.hid hn1;clear hx hn1;clear fr fR;have fr := Dr.f9;have fR := R.f;go_wp2_with fail
 clear fr fR;have ur1 := Dr.lt;have uG1 := R.lt.2.1;have Da := At.nwp _ (w1) (x.first) (x.last) x.none rfl;obtain ⟨Dr, R, P⟩ := (fun o => And.intro (Dr.alloc o) (And.intro (R.alloc o) (P.alloc o))) (pC (x.first) (x.last) x.none);refine (skip_no base b _ _ i s l _ _ R 41 H41.out).mono ?_;rintro e w2 ⟨rfl, hb2⟩;have Dr := Dr.below hb2;have Da := Da.below hb2;have R := R.below hb2;have P := P.below hb2;clear hb2;have fr := Dr.f9;have fa := Da.f9;have fR := R.f;clear fr fa fR;have fr := Dr.f9;have fa := Da.f9;have fR := R.f;go_wp2
 clear fr fa fR;obtain ⟨Dr, Da, R, P⟩ := (fun o0 o1 o2 o3 o4 o5 o6 o7 o8 => And.intro (Dr.puts9 o0 o1 o2 o3 o4 o5 o6 o7 o8) (And.intro (Da.fars9 (w.heap.size) (by omega) o0 o1 o2 o3 o4 o5 o6 o7 o8) (And.intro (R.fars9 (w.heap.size) (by omega) (by omega) (by omega) o0 o1 o2 o3 o4 o5 o6 o7 o8) (P.sets9 (w.heap.size) (by omega) o0 o1 o2 o3 o4 o5 o6 o7 o8)))) (.int .u64 0) (.int .u64 0) (.int .u64 0) (.int .u64 0) (.int .u64 0) (.int .u64 0) (.int .u64 0) (.int .u64 0) (.bool false);have fr := Dr.f9;have fa := Da.f9;have fR := R.f;refine bodyPost_ret (v := .tuple #[.agg #[.int .u64 0, .int .u64 0, .int .u64 0, .int .u64 0, .int .u64 0, .int .u64 0, .int .u64 0, .int .u64 0, .bool false], .int .i64 2]) (by simp [results, Tryz.results124, go_sem, fr]; try rfl) rfl ?_;exact ⟨zeroP, 2, _, _, n1, _, by simp only [word_zero], ⟨rfl, rfl, by rw [HN.out, Rx.build_length]; omega⟩, R, P⟩
theorem choice_of (base b : Nat) (s : ByteArray) (l : List UInt8) (deep : Int) (d : Nat) (h : InnerOK base b s l deep (Rx.innerF l d)) : ChoiceOK base b s l deep (Rx.choiceF (Rx.innerF l d) l) :=
 choice_any base b s l deep _ (Rx.inner_goes d) (row_any base b s l deep _ (Rx.inner_goes d) (part_any base b s l deep _ (Rx.inner_goes d) (atom_any base b s l deep _ h)))
theorem inner_all (base b : Nat) (s : ByteArray) (l : List UInt8) : ∀ d : Nat, d ≤ 9 → InnerOK base b s l (9 - (d : Int)) (Rx.innerF l d) := by
 intro d;induction d with
 | zero =>
  intro _ g cap k n w R _ _;exact inner_z base b g cap k s l n w R
 | succ d ih =>
  intro hd g cap k n w R h40 hn;have hc := choice_of base b s l _ d (ih (by omega));have e : (9 - ((d + 1 : Nat) : Int)) = 8 - (d : Int) := by omega
  rw [e];have e2 : (9 : Int) - (d : Int) = (8 - (d : Int)) + 1 := by omega
  rw [e2] at hc;have hk := Rx.pk_lt (l := l) (k := k) (by omega);have ga := Rx.choice_goes (Rx.inner_goes d) (l := l) (k := k + 1) (by omega);unfold Rx.innerF;cases hr : Rx.choiceF (Rx.innerF l d) l (k + 1) with
  | bad er i => rw [hr] at ga; exact inner_b base b g cap k s l n w R hn _ ⟨by omega, by omega⟩ _ hc h40 er i hr ga.2.2
  | ok p i =>
   dsimp only;by_cases h41 : Rx.pk l i = 41
   ·
    rw [if_pos h41]; exact inner_y base b g cap k s l n w R hn _ ⟨by omega, by omega⟩ _ hc h40 p i hr h41
   ·
    rw [if_neg h41]; exact inner_n base b g cap k s l n w R hn _ ⟨by omega, by omega⟩ _ hc h40 p i hr h41
theorem choice_top (base b : Nat) (s : ByteArray) (l : List UInt8) : ChoiceOK base b s l 0 (Rx.choiceF (Rx.innerF l 9) l) :=
 choice_of base b s l 0 9 (inner_all base b s l 9 (Nat.le_refl _))
end Go.Proofs.YthdoniefjmphaaaGreatDoor
/- regex's reader: whole; net.finish. -/
namespace Go.Proofs.YthdoniefjmphaaaGreatDoor
open Go Go.Proofs Go.RowKit Go.Shelf
set_option maxRecDepth 100000
attribute [local go_sem] cell_set
def wholeF (l : List UInt8) : Rx.Res Rx.Pt := match Rx.choiceF (Rx.innerF l 9) l 0 with
 | .bad e j => .bad e j
 | .ok p j => if j < l.length then .bad 2 j else .ok p j
set_option maxHeartbeats 4000000 in
theorem whole_b (base b g cap : Nat) (s : ByteArray) (l : List UInt8) (n : Rx.Nt) (w : World) (R : Rd base b g cap s l 0 n w) (hn : n.length ≤ 1) (at_ : Nat → Rx.Res Rx.Pt) (HC : ChoiceOK base b s l 0 at_) (er i : Nat) (hr : at_ 0 = .bad er i) (he : er = 2 ∨ er = 4) :
  Calls Tryz.prog 54 #[.pointer (some ⟨b, 0, none⟩)] w (PU base b g w s l n (.bad er i)) := by
 have P := Kp.refl b g w;have hl64 := R.ll;have hsz : s.size = l.length := by rw [Lib.size_eq, R.txt]
 obtain ⟨hbs, hgs, hts⟩ := R.lt;have hb1 := R.b1;have HR := Lib.hid hr;clear hr;have hne : ((er : Int) == 0) = false := by rw [beq_eq_false_iff_ne]; omega
 clear hsz;go_enter Tryz.func54, Tryz.ntmps54
 go_wp2_with fail
 have uG0 := R.lt.2.1;have Dr := At.nwz _ (w) rfl;obtain ⟨R, P⟩ := (fun o => And.intro (R.alloc o) (P.alloc o)) zC;have ltr := Dr.lt;refine (HC _ _ 0 n _ R hn).mono ?_;rintro e w1 ⟨x, er0, g1, cap1, n1, j0, rfl, hst, R2, K2⟩;have hrow := K2.row;have qr1 : g1 ≠ w.heap.size := by omega
 have Dr := Dr.kp K2 (by omega) (by omega);have P := P.trans K2;have R := R2;clear R2 K2 hrow ltr;obtain ⟨ar0, zr0, ar1, zr1, ar2, zr2, ar3, zr3, ar4, zr4, ar5, zr5, ar6, zr6, ar7, zr7, ar8, zr8, nr⟩ := Dr.f9;obtain ⟨aR0, aR1, aR2, zR1, zR2, nR, nG, kR⟩ := R.f;rw [HR.out] at hst;obtain ⟨rfl, hji, hlen⟩ := hst;obtain rfl : i = j0 := hji.symm;clear ar0 zr0 ar1 zr1 ar2 zr2 ar3 zr3 ar4 zr4 ar5 zr5 ar6 zr6 ar7 zr7 ar8 zr8 nr aR0 aR1 aR2 zR1 zR2 nR nG kR;obtain ⟨ar0, zr0, ar1, zr1, ar2, zr2, ar3, zr3, ar4, zr4, ar5, zr5, ar6, zr6, ar7, zr7, ar8, zr8, nr⟩ := Dr.f9;obtain ⟨aR0, aR1, aR2, zR1, zR2, nR, nG, kR⟩ := R.f;go_upto_region 2 with (fail)
 clear ar0 zr0 ar1 zr1 ar2 zr2 ar3 zr3 ar4 zr4 ar5 zr5 ar6 zr6 ar7 zr7 ar8 zr8 nr aR0 aR1 aR2 zR1 zR2 nR nG kR;have ur1 := Dr.lt;have uG1 := R.lt.2.1;have Da := At.nwp _ (w1) (x.first) (x.last) x.none rfl;obtain ⟨Dr, R, P⟩ := (fun o => And.intro (Dr.alloc o) (And.intro (R.alloc o) (P.alloc o))) (pC (x.first) (x.last) x.none);generalize (w1).alloc (pC (x.first) (x.last) x.none) = w8 at *;have Dr : At ((w8).drew) (w.heap.size) zL := Dr.drew;have Da : At ((w8).drew) (w1.heap.size) (pL (x.first) (x.last) x.none) := Da.drew;have R := R.drew;have P := P.drew;refine wp_region_held_drew (S := fun u => True) (by kernel_rfl) ?_ (fun hS => ?_)
 ·
  exact trivial
 generalize (w8).drew = v1 at *;refine tkH 0 hS ?_;refine tkH 1 hS ?_;refine tkH 2 hS ?_;refine tkS 3 hS ?_;refine tkS 4 hS ?_;refine tkS 5 hS ?_;refine tkS 6 hS ?_;refine tkS 7 hS ?_;refine tkS 8 hS ?_;refine tkS 9 hS ?_;refine tkS 10 hS ?_;refine tkS 11 hS ?_;refine tkS 12 hS ?_;refine tkH 13 hS ?_;refine wpAnyH_done (by kernel_rfl) ?_ _;clear hS;obtain ⟨ar0, zr0, ar1, zr1, ar2, zr2, ar3, zr3, ar4, zr4, ar5, zr5, ar6, zr6, ar7, zr7, ar8, zr8, nr⟩ := Dr.f9;have fa := Da.f9;obtain ⟨aR0, aR1, aR2, zR1, zR2, nR, nG, kR⟩ := R.f;go_wp2
 clear ar0 zr0 ar1 zr1 ar2 zr2 ar3 zr3 ar4 zr4 ar5 zr5 ar6 zr6 ar7 zr7 ar8 zr8 nr fa aR0 aR1 aR2 zR1 zR2 nR nG kR;have q9 := fun o0 o1 o2 o3 o4 o5 o6 o7 o8 => And.intro (Dr.puts9 o0 o1 o2 o3 o4 o5 o6 o7 o8) (And.intro (Da.fars9 (w.heap.size) (by omega) o0 o1 o2 o3 o4 o5 o6 o7 o8) (And.intro (R.fars9 (w.heap.size) (by omega) (by omega) (by omega) o0 o1 o2 o3 o4 o5 o6 o7 o8) (P.sets9 (w.heap.size) (by omega) o0 o1 o2 o3 o4 o5 o6 o7 o8)));obtain ⟨Dr, Da, R, P⟩ := app9 q9 (x.first) (x.last) x.none;clear q9;obtain ⟨ar0, zr0, ar1, zr1, ar2, zr2, ar3, zr3, ar4, zr4, ar5, zr5, ar6, zr6, ar7, zr7, ar8, zr8, nr⟩ := Dr.f9;have fa := Da.f9;obtain ⟨aR0, aR1, aR2, zR1, zR2, nR, nG, kR⟩ := R.f;refine bodyPost_ret (v := .tuple #[.agg #[.int .u64 (word (x.first) 0), .int .u64 (word (x.first) 1), .int .u64 (word (x.first) 2), .int .u64 (word (x.first) 3), .int .u64 (word (x.last) 0), .int .u64 (word (x.last) 1), .int .u64 (word (x.last) 2), .int .u64 (word (x.last) 3), .bool x.none], .int .i64 (er : Int)]) (by simp [results, Tryz.results54, go_sem, ar0, zr0, ar1, zr1, ar2, zr2, ar3, zr3, ar4, zr4, ar5, zr5, ar6, zr6, ar7, zr7, ar8, zr8, nr]; try rfl) rfl ?_;exact ⟨x, (er : Int), _, _, n1, _, rfl, ⟨rfl, rfl, hlen⟩, R, P⟩
set_option maxHeartbeats 4000000 in
theorem whole_s (base b g cap : Nat) (s : ByteArray) (l : List UInt8) (n : Rx.Nt) (w : World) (R : Rd base b g cap s l 0 n w) (hn : n.length ≤ 1) (at_ : Nat → Rx.Res Rx.Pt) (HC : ChoiceOK base b s l 0 at_) (p : Rx.Pt) (i : Nat) (hr : at_ 0 = .ok p i) (hlt : i < l.length) :
  Calls Tryz.prog 54 #[.pointer (some ⟨b, 0, none⟩)] w (PU base b g w s l n (.bad 2 i)) := by
 have P := Kp.refl b g w;have hl64 := R.ll;have hsz : s.size = l.length := by rw [Lib.size_eq, R.txt]
 obtain ⟨hbs, hgs, hts⟩ := R.lt;have hb1 := R.b1;have HR := Lib.hid hr;clear hr;have d1 : decide ((i : Int) < (s.size : Int)) = true := decide_eq_true (by omega);have d2 : decide (i < s.size) = true := decide_eq_true (by omega);clear hsz;go_enter Tryz.func54, Tryz.ntmps54
 go_wp2_with fail
 have uG0 := R.lt.2.1;have Dr := At.nwz _ (w) rfl;obtain ⟨R, P⟩ := (fun o => And.intro (R.alloc o) (P.alloc o)) zC;have ltr := Dr.lt;refine (HC _ _ 0 n _ R hn).mono ?_;rintro e w1 ⟨x, er0, g1, cap1, n1, j0, rfl, hst, R2, K2⟩;have hrow := K2.row;have qr1 : g1 ≠ w.heap.size := by omega
 have Dr := Dr.kp K2 (by omega) (by omega);have P := P.trans K2;have R := R2;clear R2 K2 hrow ltr;obtain ⟨ar0, zr0, ar1, zr1, ar2, zr2, ar3, zr3, ar4, zr4, ar5, zr5, ar6, zr6, ar7, zr7, ar8, zr8, nr⟩ := Dr.f9;obtain ⟨aR0, aR1, aR2, zR1, zR2, nR, nG, kR⟩ := R.f;rw [HR.out] at hst;obtain ⟨hx, rfl, hji, hn1⟩ := hst;obtain rfl : i = j0 := hji.symm;have HX := Lib.hid hx;have HN := Lib.hid hn1;clear hx hn1;clear ar0 zr0 ar1 zr1 ar2 zr2 ar3 zr3 ar4 zr4 ar5 zr5 ar6 zr6 ar7 zr7 ar8 zr8 nr aR0 aR1 aR2 zR1 zR2 nR nG kR;obtain ⟨ar0, zr0, ar1, zr1, ar2, zr2, ar3, zr3, ar4, zr4, ar5, zr5, ar6, zr6, ar7, zr7, ar8, zr8, nr⟩ := Dr.f9;obtain ⟨aR0, aR1, aR2, zR1, zR2, nR, nG, kR⟩ := R.f;go_upto_region 2 with (fail)
 clear ar0 zr0 ar1 zr1 ar2 zr2 ar3 zr3 ar4 zr4 ar5 zr5 ar6 zr6 ar7 zr7 ar8 zr8 nr aR0 aR1 aR2 zR1 zR2 nR nG kR;have ur1 := Dr.lt;have uG1 := R.lt.2.1;have Da := At.nwp _ (w1) (x.first) (x.last) x.none rfl;obtain ⟨Dr, R, P⟩ := (fun o => And.intro (Dr.alloc o) (And.intro (R.alloc o) (P.alloc o))) (pC (x.first) (x.last) x.none);generalize (w1).alloc (pC (x.first) (x.last) x.none) = w8 at *;have Dr : At ((w8).drew) (w.heap.size) zL := Dr.drew;have Da : At ((w8).drew) (w1.heap.size) (pL (x.first) (x.last) x.none) := Da.drew;have R := R.drew;have P := P.drew;refine wp_region_held_drew (S := fun u => At u b [.string s, .int .i64 (i : Int), rowV g1 n1.length cap1]) (by kernel_rfl) ?_ (fun hS => ?_)
 ·
  exact R.cells
 generalize (w8).drew = v1 at *;refine tkH 0 hS ?_;refine tkH 1 hS ?_;refine tkH 2 hS ?_;refine tkH 3 hS ?_;refine tkH 4 hS ?_;refine tkH 5 hS ?_;refine tkC 6 hS (fun _ h => h.f3) ?_;refine tkH 7 hS ?_;refine tkH 8 hS ?_;refine tkH 9 hS ?_;refine tkC 10 hS (fun _ h => h.f3) ?_;refine tkH 11 hS ?_;refine tkH 12 hS ?_;refine tkH 13 hS ?_;refine wpAnyH_done (by kernel_rfl) ?_ _;clear hS;obtain ⟨ar0, zr0, ar1, zr1, ar2, zr2, ar3, zr3, ar4, zr4, ar5, zr5, ar6, zr6, ar7, zr7, ar8, zr8, nr⟩ := Dr.f9;have fa := Da.f9;obtain ⟨aR0, aR1, aR2, zR1, zR2, nR, nG, kR⟩ := R.f;go_wp2
 clear ar0 zr0 ar1 zr1 ar2 zr2 ar3 zr3 ar4 zr4 ar5 zr5 ar6 zr6 ar7 zr7 ar8 zr8 nr fa aR0 aR1 aR2 zR1 zR2 nR nG kR;obtain ⟨Dr, Da, R, P⟩ := (fun o0 o1 o2 o3 o4 o5 o6 o7 o8 => And.intro (Dr.puts9 o0 o1 o2 o3 o4 o5 o6 o7 o8) (And.intro (Da.fars9 (w.heap.size) (by omega) o0 o1 o2 o3 o4 o5 o6 o7 o8) (And.intro (R.fars9 (w.heap.size) (by omega) (by omega) (by omega) o0 o1 o2 o3 o4 o5 o6 o7 o8) (P.sets9 (w.heap.size) (by omega) o0 o1 o2 o3 o4 o5 o6 o7 o8)))) (.int .u64 0) (.int .u64 0) (.int .u64 0) (.int .u64 0) (.int .u64 0) (.int .u64 0) (.int .u64 0) (.int .u64 0) (.bool false);obtain ⟨ar0, zr0, ar1, zr1, ar2, zr2, ar3, zr3, ar4, zr4, ar5, zr5, ar6, zr6, ar7, zr7, ar8, zr8, nr⟩ := Dr.f9;have fa := Da.f9;obtain ⟨aR0, aR1, aR2, zR1, zR2, nR, nG, kR⟩ := R.f;refine bodyPost_ret (v := .tuple #[.agg #[.int .u64 0, .int .u64 0, .int .u64 0, .int .u64 0, .int .u64 0, .int .u64 0, .int .u64 0, .int .u64 0, .bool false], .int .i64 2]) (by simp [results, Tryz.results54, go_sem, ar0, zr0, ar1, zr1, ar2, zr2, ar3, zr3, ar4, zr4, ar5, zr5, ar6, zr6, ar7, zr7, ar8, zr8, nr]; try rfl) rfl ?_;exact ⟨zeroP, 2, _, _, n1, _, by simp only [word_zero], ⟨rfl, rfl, by rw [HN.out, Rx.build_length]; omega⟩, R, P⟩
set_option maxHeartbeats 4000000 in
theorem whole_o (base b g cap : Nat) (s : ByteArray) (l : List UInt8) (n : Rx.Nt) (w : World) (R : Rd base b g cap s l 0 n w) (hn : n.length ≤ 1) (at_ : Nat → Rx.Res Rx.Pt) (HC : ChoiceOK base b s l 0 at_) (p : Rx.Pt) (i : Nat) (hr : at_ 0 = .ok p i) (hlt : ¬ i < l.length) :
  Calls Tryz.prog 54 #[.pointer (some ⟨b, 0, none⟩)] w (PU base b g w s l n (.ok p i)) := by
 have P := Kp.refl b g w;have hl64 := R.ll;have hsz : s.size = l.length := by rw [Lib.size_eq, R.txt]
 obtain ⟨hbs, hgs, hts⟩ := R.lt;have hb1 := R.b1;have HR := Lib.hid hr;clear hr;have d1 : decide ((i : Int) < (s.size : Int)) = false := decide_eq_false (by omega);have d2 : decide (i < s.size) = false := decide_eq_false (by omega);clear hsz;go_enter Tryz.func54, Tryz.ntmps54
 go_wp2_with fail
 have uG0 := R.lt.2.1;have Dr := At.nwz _ (w) rfl;obtain ⟨R, P⟩ := (fun o => And.intro (R.alloc o) (P.alloc o)) zC;have ltr := Dr.lt;refine (HC _ _ 0 n _ R hn).mono ?_;rintro e w1 ⟨x, er0, g1, cap1, n1, j0, rfl, hst, R2, K2⟩;have hrow := K2.row;have qr1 : g1 ≠ w.heap.size := by omega
 have Dr := Dr.kp K2 (by omega) (by omega);have P := P.trans K2;have R := R2;clear R2 K2 hrow ltr;obtain ⟨ar0, zr0, ar1, zr1, ar2, zr2, ar3, zr3, ar4, zr4, ar5, zr5, ar6, zr6, ar7, zr7, ar8, zr8, nr⟩ := Dr.f9;obtain ⟨aR0, aR1, aR2, zR1, zR2, nR, nG, kR⟩ := R.f;rw [HR.out] at hst;obtain ⟨hx, rfl, hji, hn1⟩ := hst;obtain rfl : i = j0 := hji.symm;have HX := Lib.hid hx;have HN := Lib.hid hn1;clear hx hn1;clear ar0 zr0 ar1 zr1 ar2 zr2 ar3 zr3 ar4 zr4 ar5 zr5 ar6 zr6 ar7 zr7 ar8 zr8 nr aR0 aR1 aR2 zR1 zR2 nR nG kR;obtain ⟨ar0, zr0, ar1, zr1, ar2, zr2, ar3, zr3, ar4, zr4, ar5, zr5, ar6, zr6, ar7, zr7, ar8, zr8, nr⟩ := Dr.f9;obtain ⟨aR0, aR1, aR2, zR1, zR2, nR, nG, kR⟩ := R.f;go_upto_region 2 with (fail)
 clear ar0 zr0 ar1 zr1 ar2 zr2 ar3 zr3 ar4 zr4 ar5 zr5 ar6 zr6 ar7 zr7 ar8 zr8 nr aR0 aR1 aR2 zR1 zR2 nR nG kR;have ur1 := Dr.lt;have uG1 := R.lt.2.1;have Da := At.nwp _ (w1) (x.first) (x.last) x.none rfl;obtain ⟨Dr, R, P⟩ := (fun o => And.intro (Dr.alloc o) (And.intro (R.alloc o) (P.alloc o))) (pC (x.first) (x.last) x.none);generalize (w1).alloc (pC (x.first) (x.last) x.none) = w8 at *;have Dr : At ((w8).drew) (w.heap.size) zL := Dr.drew;have Da : At ((w8).drew) (w1.heap.size) (pL (x.first) (x.last) x.none) := Da.drew;have R := R.drew;have P := P.drew;refine wp_region_held_drew (S := fun u => At u b [.string s, .int .i64 (i : Int), rowV g1 n1.length cap1]) (by kernel_rfl) ?_ (fun hS => ?_)
 ·
  exact R.cells
 generalize (w8).drew = v1 at *;refine tkH 0 hS ?_;refine tkH 1 hS ?_;refine tkH 2 hS ?_;refine tkH 3 hS ?_;refine tkH 4 hS ?_;refine tkH 5 hS ?_;refine tkC 6 hS (fun _ h => h.f3) ?_;refine tkH 7 hS ?_;refine tkH 8 hS ?_;refine tkH 9 hS ?_;refine tkC 10 hS (fun _ h => h.f3) ?_;refine tkH 11 hS ?_;refine tkH 12 hS ?_;refine tkH 13 hS ?_;refine wpAnyH_done (by kernel_rfl) ?_ _;clear hS;obtain ⟨ar0, zr0, ar1, zr1, ar2, zr2, ar3, zr3, ar4, zr4, ar5, zr5, ar6, zr6, ar7, zr7, ar8, zr8, nr⟩ := Dr.f9;have fa := Da.f9;obtain ⟨aR0, aR1, aR2, zR1, zR2, nR, nG, kR⟩ := R.f;go_wp2
 clear ar0 zr0 ar1 zr1 ar2 zr2 ar3 zr3 ar4 zr4 ar5 zr5 ar6 zr6 ar7 zr7 ar8 zr8 nr fa aR0 aR1 aR2 zR1 zR2 nR nG kR;have q9 := fun o0 o1 o2 o3 o4 o5 o6 o7 o8 => And.intro (Dr.puts9 o0 o1 o2 o3 o4 o5 o6 o7 o8) (And.intro (Da.fars9 (w.heap.size) (by omega) o0 o1 o2 o3 o4 o5 o6 o7 o8) (And.intro (R.fars9 (w.heap.size) (by omega) (by omega) (by omega) o0 o1 o2 o3 o4 o5 o6 o7 o8) (P.sets9 (w.heap.size) (by omega) o0 o1 o2 o3 o4 o5 o6 o7 o8)));obtain ⟨Dr, Da, R, P⟩ := app9 q9 (x.first) (x.last) x.none;clear q9;obtain ⟨ar0, zr0, ar1, zr1, ar2, zr2, ar3, zr3, ar4, zr4, ar5, zr5, ar6, zr6, ar7, zr7, ar8, zr8, nr⟩ := Dr.f9;have fa := Da.f9;obtain ⟨aR0, aR1, aR2, zR1, zR2, nR, nG, kR⟩ := R.f;refine bodyPost_ret (v := .tuple #[.agg #[.int .u64 (word (x.first) 0), .int .u64 (word (x.first) 1), .int .u64 (word (x.first) 2), .int .u64 (word (x.first) 3), .int .u64 (word (x.last) 0), .int .u64 (word (x.last) 1), .int .u64 (word (x.last) 2), .int .u64 (word (x.last) 3), .bool x.none], .int .i64 0]) (by simp [results, Tryz.results54, go_sem, ar0, zr0, ar1, zr1, ar2, zr2, ar3, zr3, ar4, zr4, ar5, zr5, ar6, zr6, ar7, zr7, ar8, zr8, nr]; try rfl) rfl ?_;exact ⟨x, 0, _, _, n1, _, rfl, ⟨HX.out, rfl, rfl, HN.out⟩, R, P⟩
theorem whole_any (base b g cap : Nat) (s : ByteArray) (l : List UInt8) (n : Rx.Nt) (w : World) (R : Rd base b g cap s l 0 n w) (hn : n.length ≤ 1) :
  Calls Tryz.prog 54 #[.pointer (some ⟨b, 0, none⟩)] w (PU base b g w s l n (wholeF l)) := by
 have hc := choice_top base b s l;have ga := Rx.choice_goes (Rx.inner_goes 9) (l := l) (k := 0) (by omega);unfold wholeF;cases hr : Rx.choiceF (Rx.innerF l 9) l 0 with
 | bad er i => rw [hr] at ga; exact whole_b base b g cap s l n w R hn _ hc er i hr ga.2.2
 | ok p i =>
  dsimp only;by_cases hlt : i < l.length
  ·
   rw [if_pos hlt]; exact whole_s base b g cap s l n w R hn _ hc p i hr hlt
  ·
   rw [if_neg hlt]; exact whole_o base b g cap s l n w R hn _ hc p i hr hlt
abbrev endP : Rx.Pce := ⟨1, 1, false⟩
set_option maxHeartbeats 4000000 in
theorem finish_w (base g cap : Nat) (n : Rx.Nt) (x : Rx.Pce) (hl : ∀ i, i < 256 → x.last.testBit i = true → i < n.length) (hn : 0 < n.length) (w : World) (N : NetR base w (rowV g n.length cap) n) :
  Calls Tryz.prog 56 #[rowV g n.length cap, .agg #[.int .u64 (word (x.first) 0), .int .u64 (word (x.first) 1), .int .u64 (word (x.first) 2), .int .u64 (word (x.first) 3), .int .u64 (word (x.last) 0), .int .u64 (word (x.last) 1), .int .u64 (word (x.last) 2), .int .u64 (word (x.last) 3), .bool x.none]] w fun e w' => e = .returned (.agg #[.int .u64 (word ((seqP x endP).first) 0), .int .u64 (word ((seqP x endP).first) 1), .int .u64 (word ((seqP x endP).first) 2), .int .u64 (word ((seqP x endP).first) 3)]) ∧ NetR base w' (rowV g n.length cap) (Rx.joinN x.last 1 n) ∧ w.grownBy w' (some g) := by
 have nG := (N.lt _ rfl).2;have nT := N.tab.lt;have B : w.grownBy w (some g) := below_grown (Below.refl _ _);have HL := Lib.hid hl;clear hl;have fld : ∀ w, (Instr.field 112 (.agg #[.int .u64 (word ((seqP x endP).first) 0), .int .u64 (word ((seqP x endP).first) 1), .int .u64 (word ((seqP x endP).first) 2), .int .u64 (word ((seqP x endP).first) 3), .int .u64 (word ((seqP x endP).last) 0), .int .u64 (word ((seqP x endP).last) 1), .int .u64 (word ((seqP x endP).last) 2), .int .u64 (word ((seqP x endP).last) 3), .bool (seqP x endP).none]) 0).run Tryz.prog w = .ok (.agg #[.int .u64 (word ((seqP x endP).first) 0), .int .u64 (word ((seqP x endP).first) 1), .int .u64 (word ((seqP x endP).first) 2), .int .u64 (word ((seqP x endP).first) 3)]) w := fun _ => by kernel_rfl
 go_enter Tryz.func56, Tryz.ntmps56
 go_wp2_with fail
 have Dx := ((At.nwp (w.heap.size) (w) (x.first) (x.last) x.none).alloc (.cells #[.int .u64 0, .int .u64 0, .int .u64 0, .int .u64 0] 104))
 have Dr := (At.nwb (w.heap.size + 1) ((w).alloc (pC (x.first) (x.last) x.none)) [.int .u64 0, .int .u64 0, .int .u64 0, .int .u64 0] 104)
 have N := ((N.alloc (pC (x.first) (x.last) x.none)).alloc (.cells #[.int .u64 0, .int .u64 0, .int .u64 0, .int .u64 0] 104));have B := (grown_alloc (grown_alloc B (pC (x.first) (x.last) x.none)) (.cells #[.int .u64 0, .int .u64 0, .int .u64 0, .int .u64 0] 104));refine (swith_zero 0 (by omega) _).mono ?_;rintro e w1 ⟨rfl, hb1⟩;have Dx := Dx.below hb1;have Dr := Dr.below hb1;have N := N.below hb1;have B := grown_trans B (below_grown hb1);clear hb1;have fx := Dx.f9;obtain ⟨ar0, zr0, ar1, zr1, ar2, zr2, ar3, zr3, nr⟩ := Dr.f4;have nG := (N.lt _ rfl).2;rw [show (2 : Nat) ^ 0 = 1 from rfl];go_upto_region 2 with (fail)
 clear fx ar0 zr0 ar1 zr1 ar2 zr2 ar3 zr3 nr nG;have ux1 := Dx.lt;have ur1 := Dr.lt;have De := At.nw (w1) [.int .u64 (word (1) 0), .int .u64 (word (1) 1), .int .u64 (word (1) 2), .int .u64 (word (1) 3)] 104;obtain ⟨Dx, Dr, N⟩ := (fun o => And.intro (Dx.alloc o) (And.intro (Dr.alloc o) (N.alloc o))) (.cells #[.int .u64 (word (1) 0), .int .u64 (word (1) 1), .int .u64 (word (1) 2), .int .u64 (word (1) 3)] 104);have B := (grown_alloc B (.cells #[.int .u64 (word (1) 0), .int .u64 (word (1) 1), .int .u64 (word (1) 2), .int .u64 (word (1) 3)] 104));generalize (w1).alloc (.cells #[.int .u64 (word (1) 0), .int .u64 (word (1) 1), .int .u64 (word (1) 2), .int .u64 (word (1) 3)] 104) = w8 at *;have fx := Dx.f9;obtain ⟨ar0, zr0, ar1, zr1, ar2, zr2, ar3, zr3, nr⟩ := Dr.f4;have fe := De.f4;have nG := (N.lt _ rfl).2;go_wp2_with fail
 clear fx ar0 zr0 ar1 zr1 ar2 zr2 ar3 zr3 nr fe nG;refine (chain_w base g cap n x endP HL.out hn _ N).mono ?_;rintro e w2 ⟨rfl, hN, hg⟩
 replace hg : World.grownBy _ _ (some g) := hg
 have Dx := grown_at hg Dx (fun e2 => by have e3 := Option.some.inj e2; omega);have Dr := grown_at hg Dr (fun e2 => by have e3 := Option.some.inj e2; omega);have De := grown_at hg De (fun e2 => by have e3 := Option.some.inj e2; omega);have N := hN;have B := grown_trans B hg;clear hN hg;have fx := Dx.f9;obtain ⟨ar0, zr0, ar1, zr1, ar2, zr2, ar3, zr3, nr⟩ := Dr.f4;have fe := De.f4;have nG := (N.lt _ rfl).2;go_wp2_with fail
 clear fx ar0 zr0 ar1 zr1 ar2 zr2 ar3 zr3 nr fe nG;obtain ⟨Dx, Dr, De, N⟩ := (fun o0 o1 o2 o3 => And.intro (Dx.fars4 (w.heap.size + 1) (by omega) o0 o1 o2 o3) (And.intro (Dr.puts4 o0 o1 o2 o3) (And.intro (De.fars4 (w.heap.size + 1) (by omega) o0 o1 o2 o3) (N.sets4 (w.heap.size + 1) (by omega) (by omega) o0 o1 o2 o3)))) (.int .u64 (word ((seqP x endP).first) 0)) (.int .u64 (word ((seqP x endP).first) 1)) (.int .u64 (word ((seqP x endP).first) 2)) (.int .u64 (word ((seqP x endP).first) 3));have B := (grown_sets4 B (w.heap.size + 1) (by omega) (.int .u64 (word ((seqP x endP).first) 0)) (.int .u64 (word ((seqP x endP).first) 1)) (.int .u64 (word ((seqP x endP).first) 2)) (.int .u64 (word ((seqP x endP).first) 3)));have fx := Dx.f9;obtain ⟨ar0, zr0, ar1, zr1, ar2, zr2, ar3, zr3, nr⟩ := Dr.f4;have fe := De.f4;have nG := (N.lt _ rfl).2;refine bodyPost_ret (by simp [results, Tryz.results56, go_sem, ar0, zr0, ar1, zr1, ar2, zr2, ar3, zr3, nr]; try rfl) rfl ?_;exact ⟨rfl, N, B⟩
end Go.Proofs.YthdoniefjmphaaaGreatDoor
/- regex.Compile. -/
namespace Go.Proofs.YthdoniefjmphaaaGreatDoor
open Go Go.Proofs Go.RowKit Go.Shelf
set_option maxRecDepth 100000
attribute [local go_sem] cell_set
def RxAt (base rb : Nat) (s : ByteArray) (l : List UInt8) (p : Rx.Pt) (w : World) : Prop :=
 ∃ g cap, s.data.toList = l ∧ At w rb [.string s, .int .u64 (word (Rx.beginN p) 0), .int .u64 (word (Rx.beginN p) 1), .int .u64 (word (Rx.beginN p) 2), .int .u64 (word (Rx.beginN p) 3), rowV g (Rx.netN p).length cap] ∧ NetR base w (rowV g (Rx.netN p).length cap) (Rx.netN p)
def CP (w : World) (s : ByteArray) (l : List UInt8) (r : Rx.Res Rx.Pt) (e : Ending) (w' : World) : Prop := Below w.heap.size w w' ∧ match r with
 | .bad er j => e = .returned (.tuple #[.pointer none, .int .i64 (j : Int), .int .i64 (er : Int)])
 | .ok p _ => ∃ rb, e = .returned (.tuple #[.pointer (some ⟨rb, 0, none⟩), .int .i64 0, .int .i64 0]) ∧ w.heap.size ≤ rb ∧ RxAt w.heap.size rb s l p w'
theorem clone_w (s : ByteArray) (hl : s.size ≤ 1000) (w : World) :
  Calls Tryz.prog 55 #[.string s] w fun e w' => e = .returned (.string s) ∧ Below w.heap.size w w' := by
 go_enter Tryz.func55, Tryz.ntmps55
 go_wp2_with fail
 refine (Tryz.stringslite_Clone s _ (by omega)).mono ?_;rintro e w1 ⟨rfl, hb⟩;go_wp2
 go_ret
 exact ⟨rfl, hb⟩
theorem rd_new (w : World) (hT : Tab w) (s : ByteArray) (l : List UInt8) (hud : s.data.toList = l) (hl : l.length ≤ 64) :
  Rd w.heap.size (w.heap.size + 1) w.heap.size 1 s l 0 [(0, 0)] ((w.alloc (.cells #[.int .u64 0, .int .u64 0, .int .u64 0, .int .u64 0, .int .u64 0, .int .u64 0, .int .u64 0, .int .u64 0] 106)).alloc (.cells #[.string s, .int .i64 0, rowV w.heap.size 1 1] 110)) := by
 have hlt := hT.lt;refine ⟨hud, hl, Nat.zero_le _, ?_, ⟨?_, (hT.alloc _).alloc _, fun e => by have e2 := Option.some.inj e; dsimp only at e2; omega, by simp⟩, by simp, by omega, by omega⟩
 ·
  have h := At.new (w.alloc (.cells #[.int .u64 0, .int .u64 0, .int .u64 0, .int .u64 0, .int .u64 0, .int .u64 0, .int .u64 0, .int .u64 0] 106)) #[.string s, .int .i64 0, rowV w.heap.size 1 1] 110;simpa using h
 ·
  refine ⟨by simp [cellsN_length], .inr ⟨w.heap.size, 1, #[.int .u64 0, .int .u64 0, .int .u64 0, .int .u64 0, .int .u64 0, .int .u64 0, .int .u64 0, .int .u64 0], rfl, Nat.le_refl _, ?_, Nat.le_refl _, by unfold maxLen; omega, rfl, ?_⟩⟩
  ·
   exact (Below.heap_alloc _ _ _ (by simp)).trans (World.alloc_heap_new w _)
  ·
   simp [cellsN, nodeV, wordsV, word_zero]
set_option maxHeartbeats 1000000 in
theorem compile_l (s : ByteArray) (l : List UInt8) (hud : s.data.toList = l) (h1000 : l.length ≤ 1000) (w : World) (hl : 64 < l.length) : Calls Tryz.prog 42 #[.string s] w (CP w s l (.bad 4 0)) := by
 have hsz : s.size = l.length := by rw [Lib.size_eq, hud]
 have d1 : decide ((64 : Int) < (s.size : Int)) = true := decide_eq_true (by omega);have d2 : decide (64 < s.size) = true := decide_eq_true (by omega);clear hud hsz;go_enter Tryz.func42, Tryz.ntmps42
 go_wp2
 go_ret3
 exact ⟨Below.refl _ _, rfl⟩
set_option maxHeartbeats 4000000 in
theorem compile_b (s : ByteArray) (l : List UInt8) (hud : s.data.toList = l) (w : World) (hT : Tab w) (hl : l.length ≤ 64) (er i : Nat) (hr : wholeF l = .bad er i) (he : er = 2 ∨ er = 4) : Calls Tryz.prog 42 #[.string s] w (CP w s l (.bad er i)) := by
 have hsz : s.size = l.length := by rw [Lib.size_eq, hud]
 have hs64 : s.size ≤ 64 := by omega
 have hR := rd_new w hT s l hud hl;have d1 : decide ((64 : Int) < (s.size : Int)) = false := decide_eq_false (by omega);have d2 : decide (64 < s.size) = false := decide_eq_false (by omega);have HUD := Lib.hid hud;have HR := Lib.hid hr;have HRD := Lib.hid hR;have htl := hT.lt;clear hud hsz hr hR;have hne : ((er : Int) != 0) = true := by rw [bne_iff_ne]; omega
 go_enter Tryz.func42, Tryz.ntmps42
 go_wp2_with fail
 obtain ⟨W1, hW1⟩ : ∃ W1, ((w.alloc (.cells #[.int .u64 0, .int .u64 0, .int .u64 0, .int .u64 0, .int .u64 0, .int .u64 0, .int .u64 0, .int .u64 0] 106)).alloc (.cells #[.string s, .int .i64 0, .slice (some ⟨w.heap.size, 0, none⟩) 1 1] 110)) = W1 := ⟨_, rfl⟩;have R : Rd w.heap.size (w.heap.size + 1) w.heap.size 1 s l 0 [(0, 0)] W1 := by rw [← hW1]; exact HRD.out
 have hB1 : Below w.heap.size w W1 := by rw [← hW1]; go_grown
 have hs1 : W1.heap.size = w.heap.size + 2 := by rw [← hW1]; simp
 rw [hW1];clear hW1;obtain ⟨b, hb⟩ : ∃ b, b = w.heap.size + 1 := ⟨_, rfl⟩;rw [← hb] at R;rw [← hb];have hb1 : b ≤ w.heap.size + 1 := by omega
 have hb2 : w.heap.size + 1 ≤ b := by omega
 clear hb;have P := Kp.refl b w.heap.size W1;refine (whole_any w.heap.size b _ _ s l _ _ R (by simp)).mono ?_;rintro e w1 ⟨x, er0, g1, cap1, n1, j0, rfl, hst, R2, K2⟩;have hrow := K2.row;have P := P.trans K2;have R := R2;clear R2 K2 hrow;have fR := R.f;rw [HR.out] at hst;obtain ⟨rfl, hji, hlen⟩ := hst;obtain rfl : i = j0 := hji.symm;clear fR;have fR := R.f;go_upto_region 6 with (fail)
 clear fR;have uG0 := R.lt.2.1;have Da := At.nwp _ (w1) (x.first) (x.last) x.none rfl;obtain ⟨R, P⟩ := (fun o => And.intro (R.alloc o) (P.alloc o)) (pC (x.first) (x.last) x.none);generalize (w1).alloc (pC (x.first) (x.last) x.none) = w8 at *;have Da : At ((w8).drew) (w1.heap.size) (pL (x.first) (x.last) x.none) := Da.drew;have R := R.drew;have P := P.drew;refine wp_region_held_drew (S := fun u => At u b [.string s, .int .i64 (i : Int), rowV g1 n1.length cap1]) (by kernel_rfl) ?_ (fun hS => ?_)
 ·
  exact R.cells
 generalize (w8).drew = v1 at *;refine tkH 0 hS ?_;refine tkC 1 hS (fun _ h => h.f3) ?_;refine tkH 2 hS ?_;refine tkH 3 hS ?_;refine tkH 4 hS ?_;refine tkH 5 hS ?_;refine wpAnyH_done (by kernel_rfl) ?_ _;clear hS;have hbw : Below w.heap.size w v1 := hB1.trans ⟨P.os, P.tape, P.output, P.size, fun i hi => P.block i (by omega) (by omega) (by omega)⟩;have HB := Lib.hid hbw;clear hbw P R;go_wp2
 go_ret3
 exact ⟨HB.out, rfl⟩
set_option maxHeartbeats 4000000 in
theorem compile_o (s : ByteArray) (l : List UInt8) (hud : s.data.toList = l) (w : World) (hT : Tab w) (hl : l.length ≤ 64) (p : Rx.Pt) (i : Nat) (hr : wholeF l = .ok p i) : Calls Tryz.prog 42 #[.string s] w (CP w s l (.ok p 0)) := by
 have hsz : s.size = l.length := by rw [Lib.size_eq, hud]
 have hs64 : s.size ≤ 64 := by omega
 have hR := rd_new w hT s l hud hl;have d1 : decide ((64 : Int) < (s.size : Int)) = false := decide_eq_false (by omega);have d2 : decide (64 < s.size) = false := decide_eq_false (by omega);have HUD := Lib.hid hud;have HR := Lib.hid hr;have HRD := Lib.hid hR;have htl := hT.lt;clear hud hsz hr hR;go_enter Tryz.func42, Tryz.ntmps42
 go_wp2_with fail
 obtain ⟨W1, hW1⟩ : ∃ W1, ((w.alloc (.cells #[.int .u64 0, .int .u64 0, .int .u64 0, .int .u64 0, .int .u64 0, .int .u64 0, .int .u64 0, .int .u64 0] 106)).alloc (.cells #[.string s, .int .i64 0, .slice (some ⟨w.heap.size, 0, none⟩) 1 1] 110)) = W1 := ⟨_, rfl⟩;have R : Rd w.heap.size (w.heap.size + 1) w.heap.size 1 s l 0 [(0, 0)] W1 := by rw [← hW1]; exact HRD.out
 have hB1 : Below w.heap.size w W1 := by rw [← hW1]; go_grown
 have hs1 : W1.heap.size = w.heap.size + 2 := by rw [← hW1]; simp
 rw [hW1];clear hW1;obtain ⟨b, hb⟩ : ∃ b, b = w.heap.size + 1 := ⟨_, rfl⟩;rw [← hb] at R;rw [← hb];have hb1 : b ≤ w.heap.size + 1 := by omega
 have hb2 : w.heap.size + 1 ≤ b := by omega
 clear hb;have P := Kp.refl b w.heap.size W1;refine (whole_any w.heap.size b _ _ s l _ _ R (by simp)).mono ?_;rintro e w1 ⟨x, er0, g1, cap1, n1, j0, rfl, hst, R2, K2⟩;have hrow := K2.row;have P := P.trans K2;have R := R2;clear R2 K2 hrow;have fR := R.f;rw [HR.out] at hst;obtain ⟨hx, rfl, hji, hn1⟩ := hst;obtain rfl : i = j0 := hji.symm;have HX := Lib.hid hx;have HN := Lib.hid hn1;have HL := Lib.hid (last_lt p _ hx hn1);clear hx hn1;clear fR;have fR := R.f;go_upto_region 7 with (fail)
 clear fR;have uG0 := R.lt.2.1;have Da := At.nwp _ (w1) (x.first) (x.last) x.none rfl;obtain ⟨R, P⟩ := (fun o => And.intro (R.alloc o) (P.alloc o)) (pC (x.first) (x.last) x.none);generalize (w1).alloc (pC (x.first) (x.last) x.none) = w8 at *;have Da : At ((w8).drew) (w1.heap.size) (pL (x.first) (x.last) x.none) := Da.drew;have R := R.drew;have P := P.drew;refine wp_region_held_drew (S := fun u => At u (w1.heap.size) (pL (x.first) (x.last) x.none) ∧ At u b [.string s, .int .i64 (i : Int), rowV g1 n1.length cap1]) (by kernel_rfl) ?_ (fun hS => ?_)
 ·
  exact ⟨Da, R.cells⟩
 generalize (w8).drew = v1 at *;refine tkH 0 hS ?_;refine tkH 2 hS ?_;refine tkC 3 hS (fun _ h => h.2.f3) ?_;refine tkC 4 hS (fun _ h => h.1.f9) ?_;refine tkH 6 hS ?_;refine tkC 7 hS (fun _ h => h.2.f3) ?_;refine wpAnyH_ready (rs := [1]) (by kernel_rfl) (by simp) ?_;refine' AllReadyH.cons (o := ?oor14) ?hor14 (fun K hK => ?str14) AllReadyH.nil
 case hor14 =>
  simp only [qa, qb, qc];exact rfl
 go_simp
 go_at_call 55
 refine (clone_w s (by omega) _).mono ?_;rintro e w3 ⟨rfl, hb3⟩;have Da := Da.below hb3;have R := R.below hb3;have P := P.below hb3;clear hb3;have fa := Da.f9;have fR := R.f;clear fa fR;refine hK.out _ _ ?_ (fun hS => ?_)
 · exact ⟨Da, R.cells⟩
 clear hK K
 (try simp only [Act.put, qd, qe, qf])
 refine wpAnyH_ready (rs := [5]) (by kernel_rfl) (by simp) ?_;refine' AllReadyH.cons (o := ?oor15) ?hor15 (fun K hK => ?str15) AllReadyH.nil
 case hor15 =>
  simp only [qa, qb, qc];exact rfl
 go_simp
 go_at_call 56
 refine (finish_w w.heap.size _ _ n1 x HL.out R.pos _ R.net).mono ?_;rintro e w4 ⟨rfl, hN, hg⟩;have Da := grown_at hg Da (fun e2 => by have e3 := Option.some.inj e2; omega);have R := R.rows hg (Rx.joinN_length _ _ _) hN;have P := P.grown hg;clear hN hg;have fa := Da.f9;have fR := R.f;clear fa fR;refine hK.out _ _ ?_ (fun hS => ?_)
 · exact ⟨Da, (by have h := R.cells; rw [Rx.joinN_length] at h; exact h)⟩
 clear hK K
 (try simp only [Act.put, qd, qe, qf])
 refine tkH 8 hS ?_;refine wpAnyH_ready (rs := [9]) (by kernel_rfl) (by simp) ?_;refine' AllReadyH.cons (o := ?oor17) ?hor17 (fun K hK => ?str17) AllReadyH.nil
 case hor17 =>
  simp only [qa, qb, qc];exact rfl
 have fa := Da.f9;have fR := R.f;go_simp
 refine hK.out _ _ ?_ (fun hS => ?_)
 ·
  clear fa fR;have ua1 := Da.lt;have uG1 := R.lt.2.1;have Dq := At.nw (w4) [.string s, .int .u64 (word ((seqP x endP).first) 0), .int .u64 (word ((seqP x endP).first) 1), .int .u64 (word ((seqP x endP).first) 2), .int .u64 (word ((seqP x endP).first) 3), rowV g1 n1.length cap1] 117;obtain ⟨Da, R, P⟩ := (fun o => And.intro (Da.alloc o) (And.intro (R.alloc o) (P.alloc o))) (.cells #[.string s, .int .u64 (word ((seqP x endP).first) 0), .int .u64 (word ((seqP x endP).first) 1), .int .u64 (word ((seqP x endP).first) 2), .int .u64 (word ((seqP x endP).first) 3), rowV g1 n1.length cap1] 117);exact ⟨Da, (by have h := R.cells; rw [Rx.joinN_length] at h; exact h)⟩
 clear fa fR;have ua2 := Da.lt;have uG2 := R.lt.2.1;have Dq := At.nw (w4) [.string s, .int .u64 (word ((seqP x endP).first) 0), .int .u64 (word ((seqP x endP).first) 1), .int .u64 (word ((seqP x endP).first) 2), .int .u64 (word ((seqP x endP).first) 3), rowV g1 n1.length cap1] 117;obtain ⟨Da, R, P⟩ := (fun o => And.intro (Da.alloc o) (And.intro (R.alloc o) (P.alloc o))) (.cells #[.string s, .int .u64 (word ((seqP x endP).first) 0), .int .u64 (word ((seqP x endP).first) 1), .int .u64 (word ((seqP x endP).first) 2), .int .u64 (word ((seqP x endP).first) 3), rowV g1 n1.length cap1] 117);clear hK K
 (try simp only [Act.put, qd, qe, qf])
 refine tkH 10 hS ?_;refine tkH 11 hS ?_;refine tkH 12 hS ?_;refine wpAnyH_done (by kernel_rfl) ?_ _;clear hS;have hbw : Below w.heap.size w ((w4).alloc (.cells #[.string s, .int .u64 (word ((seqP x endP).first) 0), .int .u64 (word ((seqP x endP).first) 1), .int .u64 (word ((seqP x endP).first) 2), .int .u64 (word ((seqP x endP).first) 3), rowV g1 n1.length cap1] 117)) := hB1.trans ⟨P.os, P.tape, P.output, P.size, fun i hi => P.block i (by omega) (by omega) (by omega)⟩;have HB := Lib.hid hbw;have hN := R.net;rw [Rx.joinN_length] at hN;have hout : RxAt w.heap.size (w4.heap.size) s l p ((w4).alloc (.cells #[.string s, .int .u64 (word ((seqP x endP).first) 0), .int .u64 (word ((seqP x endP).first) 1), .int .u64 (word ((seqP x endP).first) 2), .int .u64 (word ((seqP x endP).first) 3), rowV g1 n1.length cap1] 117)) := by
  refine ⟨g1, cap1, HUD.out, ?_, ?_⟩
  ·
   have e1 : Rx.beginN p = (seqP x endP).first := by rw [HX.out]; rfl
   have e2 : (Rx.netN p).length = n1.length := by unfold Rx.netN; rw [Rx.joinN_length, HN.out]
   rw [e1, e2]; exact Dq
  ·
   have e1 : Rx.netN p = Rx.joinN x.last 1 n1 := by unfold Rx.netN; rw [HX.out, HN.out]
   rw [e1, Rx.joinN_length]; exact hN
 have HO := Lib.hid hout;have hqs := P.size;simp only [World.size_alloc] at hqs;clear hbw hout P R hN;go_wp2
 go_ret3
 exact ⟨HB.out, _, rfl, by omega, HO.out⟩
theorem compile_any (s : ByteArray) (l : List UInt8) (hud : s.data.toList = l) (h1000 : l.length ≤ 1000) (w : World) (hT : Tab w) : Calls Tryz.prog 42 #[.string s] w (CP w s l (Rx.compileF l)) := by
 unfold Rx.compileF;by_cases hl : 64 < l.length
 ·
  rw [if_pos hl]; exact compile_l s l hud h1000 w hl
 ·
  rw [if_neg hl];have hl' : l.length ≤ 64 := by omega
  have ga := Rx.choice_goes (Rx.inner_goes 9) (l := l) (k := 0) (by omega);have hw : wholeF l = match Rx.choiceF (Rx.innerF l 9) l 0 with
   | .bad e j => .bad e j
   | .ok p j => if j < l.length then .bad 2 j else .ok p j := rfl
  cases hr : Rx.choiceF (Rx.innerF l 9) l 0 with
  | bad er i =>
   rw [hr] at ga hw;exact compile_b s l hud w hT hl' er i hw ga.2.2
  | ok p i =>
   rw [hr] at hw;dsimp only at hw ⊢;by_cases hlt : i < l.length
   ·
    rw [if_pos hlt] at hw ⊢; exact compile_b s l hud w hT hl' 2 i hw (Or.inl rfl)
   ·
    rw [if_neg hlt] at hw ⊢; exact compile_o s l hud w hT hl' p i hw
end Go.Proofs.YthdoniefjmphaaaGreatDoor
