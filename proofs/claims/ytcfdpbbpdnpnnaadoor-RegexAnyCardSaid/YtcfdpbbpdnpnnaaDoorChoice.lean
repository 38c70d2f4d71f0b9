/- regex's reader: choice. -/
import Derived.Test.YtcfdpbbpdnpnnaaDoorRow
import Derived.Test.YtcfdpbbpdnpnnaaDoorEither
namespace Go.Proofs.YtcfdpbbpdnpnnaaDoor
open Go Go.Proofs Go.RowKit Go.Shelf
set_option maxRecDepth 100000
attribute [local go_sem] cell_set
def ChoiceOK (base b : Nat) (s : ByteArray) (l : List UInt8) (deep : Int) (at_ : Nat → Rx.Res Rx.Pt) : Prop :=
 ∀ (g cap k : Nat) (n : Rx.Nt) (w : World), Rd base b g cap s l k n w → n.length ≤ k + 1 → Calls Tryd.prog 28 #[.pointer (some ⟨b, 0, none⟩), .int .i64 deep] w (PU base b g w s l n (at_ k))
def altP (x y : Rx.Pce) : Rx.Pce := ⟨x.first ||| y.first, x.last ||| y.last, x.none || y.none⟩
/-- between two rows -/
def ChSt (inner : Nat → Rx.Res Rx.Pt) (l : List UInt8) (T : Rx.Res Rx.Pt) (n : Rx.Nt) (x : Rx.Pce) (er : Int) (j : Nat) (n1 : Rx.Nt) : Prop :=
 (er = 0 ∧ n1.length ≤ j + 1 ∧ ∃ f acc, T = Rx.choiceL inner l f j acc ∧ l.length - j < f ∧ x = (Rx.build acc n).1 ∧ n1 = (Rx.build acc n).2) ∨ (∃ e : Nat, er = (e : Int) ∧ (e = 2 ∨ e = 4) ∧ T = .bad e j ∧ n.length ≤ n1.length)
theorem build_nil (p : Rx.Pt) (n : Rx.Nt) : Rx.build (.alt .nil p) n = Rx.build p n := by
 simp only [Rx.build, Nat.zero_or, Bool.false_or]
theorem choice_start {inner : Nat → Rx.Res Rx.Pt} {l : List UInt8} (hi : ∀ k, Rx.pk l k = 40 → Rx.Goes l k (inner k) (Rx.Few k)) {n n1 : Rx.Nt} {x : Rx.Pce} {er : Int} {k j : Nat} (hk : k ≤ l.length) (hn : n.length ≤ k + 1) (h : PSt n (Rx.rowF inner l k) x er j n1) : ChSt inner l (Rx.choiceF inner l k) n x er j n1 := by
 have g := Rx.row_goes hi hk
 unfold Rx.choiceF
 cases hr : Rx.rowF inner l k with
 | ok p i =>
  rw [hr] at h g
  obtain ⟨h1, h2, h3, h4⟩ := h
  obtain ⟨g1, g2, g3⟩ := g
  subst h3
  unfold Rx.Few at g3
  refine .inl ⟨h2, ?_, l.length + 1, .alt .nil p, rfl, by omega, by rw [build_nil]; exact h1, by rw [build_nil]; exact h4⟩
  rw [h4, Rx.build_length]; omega
 | bad e i =>
  rw [hr] at h g
  obtain ⟨h1, h2, h3⟩ := h
  subst h2
  exact .inr ⟨e, h1, g.2.2, rfl, h3⟩
theorem choice_step {inner : Nat → Rx.Res Rx.Pt} {l : List UInt8} (hi : ∀ k, Rx.pk l k = 40 → Rx.Goes l k (inner k) (Rx.Few k)) {T : Rx.Res Rx.Pt} {n n1 n2 : Rx.Nt} {x x2 : Rx.Pce} {er2 : Int} {f j j2 : Nat} {acc : Rx.Pt} (hj : j < l.length) (hn1 : n1.length ≤ j + 1) (hT : T = Rx.choiceL inner l f j acc) (hf : l.length - j < f) (hx : x = (Rx.build acc n).1) (hn : n1 = (Rx.build acc n).2) (he : Rx.pk l j = 124) (h : PSt n1 (Rx.rowF inner l (j + 1)) x2 er2 j2 n2) :
  ChSt inner l T n (altP x x2) er2 j2 n2 ∧ j < j2 := by
 obtain ⟨f, rfl⟩ : ∃ f', f = f' + 1 := ⟨f - 1, by omega⟩
 have g := Rx.row_goes hi (l := l) (k := j + 1) (by omega)
 have nl : n.length ≤ n1.length := by rw [hn, Rx.build_length]; omega
 unfold Rx.choiceL at hT
 rw [if_pos he] at hT
 cases hr : Rx.rowF inner l (j + 1) with
 | ok p i =>
  rw [hr] at h g hT
  obtain ⟨h1, h2, h3, h4⟩ := h
  obtain ⟨g1, g2, g3⟩ := g
  subst h3
  unfold Rx.Few at g3
  refine ⟨.inl ⟨h2, by rw [h4, Rx.build_length]; omega, f, .alt acc p, hT, by omega, ?_, ?_⟩, by omega⟩
  ·
   rw [hx, h1, hn]; rfl
  ·
   rw [h4, hn]; rfl
 | bad e i =>
  rw [hr] at h g hT
  obtain ⟨h1, h2, h3⟩ := h
  subst h2
  exact ⟨.inr ⟨e, h1, g.2.2, hT, by omega⟩, by have := g.1; omega⟩
theorem choice_over {inner : Nat → Rx.Res Rx.Pt} {l : List UInt8} {T : Rx.Res Rx.Pt} {n n1 : Rx.Nt} {x : Rx.Pce} {f j : Nat} {acc : Rx.Pt} (hT : T = Rx.choiceL inner l f j acc) (hf : l.length - j < f) (hx : x = (Rx.build acc n).1) (hn : n1 = (Rx.build acc n).2) (he : Rx.pk l j ≠ 124) : PSt n T x 0 j n1 := by
 obtain ⟨f, rfl⟩ : ∃ f', f = f' + 1 := ⟨f - 1, by omega⟩
 unfold Rx.choiceL at hT
 rw [if_neg he] at hT
 subst hT
 exact ⟨hx, rfl, rfl, hn⟩
theorem either_w (x y : Rx.Pce) (w : World) :
  Calls Tryd.prog 39 #[.agg #[.int .u64 (word (x.first) 0), .int .u64 (word (x.first) 1), .int .u64 (word (x.first) 2), .int .u64 (word (x.first) 3), .int .u64 (word (x.last) 0), .int .u64 (word (x.last) 1), .int .u64 (word (x.last) 2), .int .u64 (word (x.last) 3), .bool x.none], .agg #[.int .u64 (word (y.first) 0), .int .u64 (word (y.first) 1), .int .u64 (word (y.first) 2), .int .u64 (word (y.first) 3), .int .u64 (word (y.last) 0), .int .u64 (word (y.last) 1), .int .u64 (word (y.last) 2), .int .u64 (word (y.last) 3), .bool y.none]] w fun e w' => e = .returned (.agg #[.int .u64 (word ((altP x y).first) 0), .int .u64 (word ((altP x y).first) 1), .int .u64 (word ((altP x y).first) 2), .int .u64 (word ((altP x y).first) 3), .int .u64 (word ((altP x y).last) 0), .int .u64 (word ((altP x y).last) 1), .int .u64 (word ((altP x y).last) 2), .int .u64 (word ((altP x y).last) 3), .bool (altP x y).none]) ∧ Below w.heap.size w w' := either_any x y w
set_option maxHeartbeats 8000000 in
theorem choice_any (base b : Nat) (s : ByteArray) (l : List UInt8) (deep : Int) (inner : Nat → Rx.Res Rx.Pt) (hi : ∀ k, Rx.pk l k = 40 → Rx.Goes l k (inner k) (Rx.Few k)) (HA : RowOK base b s l deep (Rx.rowF inner l)) : ChoiceOK base b s l deep (Rx.choiceF inner l) := by
 intro g cap k n w R hn
 have P := Kp.refl b g w
 have hl64 := R.ll
 have hkl := R.kl
 obtain ⟨hbs, hgs, hts⟩ := R.lt
 have hb1 := R.b1
 have hst0 := fun x er j n1 h => choice_start hi (n := n) (x := x) (er := er) (j := j) (n1 := n1) hkl hn h
 have HST0 := Lib.hid hst0
 clear hst0
 generalize hT0 : Rx.choiceF inner l k = T at *
 clear hT0
 go_enter Tryd.func28, Tryd.ntmps28
 go_wp2_with fail
 have uG0 := R.lt.2.1
 have Dr : At ((w).alloc (.cells #[.int .u64 0, .int .u64 0, .int .u64 0, .int .u64 0, .int .u64 0, .int .u64 0, .int .u64 0, .int .u64 0, .bool false] 53)) (w.heap.size) [.int .u64 0, .int .u64 0, .int .u64 0, .int .u64 0, .int .u64 0, .int .u64 0, .int .u64 0, .int .u64 0, .bool false] := by have h := (At.new (w) #[.int .u64 0, .int .u64 0, .int .u64 0, .int .u64 0, .int .u64 0, .int .u64 0, .int .u64 0, .int .u64 0, .bool false] 53); simpa using h
 have R := (R.alloc (.cells #[.int .u64 0, .int .u64 0, .int .u64 0, .int .u64 0, .int .u64 0, .int .u64 0, .int .u64 0, .int .u64 0, .bool false] 53))
 have P := (P.alloc (.cells #[.int .u64 0, .int .u64 0, .int .u64 0, .int .u64 0, .int .u64 0, .int .u64 0, .int .u64 0, .int .u64 0, .bool false] 53))
 have ltr := Dr.lt
 refine (HA _ _ k n _ R hn).mono ?_
 rintro e w1 ⟨x, er, g1, cap1, n1, j, rfl, hst, R2, K2⟩
 have hrow := K2.row
 have qr1 : g1 ≠ w.heap.size := by omega
 have Dr := Dr.kp K2 (by omega) (by omega)
 have P := P.trans K2
 have R := R2
 clear R2 K2 hrow ltr
 have fr := Dr.f9
 have fR := R.f
 have hst := HST0.out _ _ _ _ hst
 have HST := Lib.hid hst
 clear hst HST0
 clear fr fR
 have fr := Dr.f9
 have fR := R.f
 go_wp2_with fail
 clear fr fR
 have ur1 := Dr.lt
 have uG1 := R.lt.2.1
 have Da : At ((w1).alloc (.cells #[.int .u64 (word (x.first) 0), .int .u64 (word (x.first) 1), .int .u64 (word (x.first) 2), .int .u64 (word (x.first) 3), .int .u64 (word (x.last) 0), .int .u64 (word (x.last) 1), .int .u64 (word (x.last) 2), .int .u64 (word (x.last) 3), .bool x.none] 53)) (w1.heap.size) [.int .u64 (word (x.first) 0), .int .u64 (word (x.first) 1), .int .u64 (word (x.first) 2), .int .u64 (word (x.first) 3), .int .u64 (word (x.last) 0), .int .u64 (word (x.last) 1), .int .u64 (word (x.last) 2), .int .u64 (word (x.last) 3), .bool x.none] := by have h := (At.new (w1) #[.int .u64 (word (x.first) 0), .int .u64 (word (x.first) 1), .int .u64 (word (x.first) 2), .int .u64 (word (x.first) 3), .int .u64 (word (x.last) 0), .int .u64 (word (x.last) 1), .int .u64 (word (x.last) 2), .int .u64 (word (x.last) 3), .bool x.none] 53); simpa using h
 have Dr := (Dr.alloc (.cells #[.int .u64 (word (x.first) 0), .int .u64 (word (x.first) 1), .int .u64 (word (x.first) 2), .int .u64 (word (x.first) 3), .int .u64 (word (x.last) 0), .int .u64 (word (x.last) 1), .int .u64 (word (x.last) 2), .int .u64 (word (x.last) 3), .bool x.none] 53))
 have R := (R.alloc (.cells #[.int .u64 (word (x.first) 0), .int .u64 (word (x.first) 1), .int .u64 (word (x.first) 2), .int .u64 (word (x.first) 3), .int .u64 (word (x.last) 0), .int .u64 (word (x.last) 1), .int .u64 (word (x.last) 2), .int .u64 (word (x.last) 3), .bool x.none] 53))
 have P := (P.alloc (.cells #[.int .u64 (word (x.first) 0), .int .u64 (word (x.first) 1), .int .u64 (word (x.first) 2), .int .u64 (word (x.first) 3), .int .u64 (word (x.last) 0), .int .u64 (word (x.last) 1), .int .u64 (word (x.last) 2), .int .u64 (word (x.last) 3), .bool x.none] 53))
 generalize (w1).alloc (.cells #[.int .u64 (word (x.first) 0), .int .u64 (word (x.first) 1), .int .u64 (word (x.first) 2), .int .u64 (word (x.first) 3), .int .u64 (word (x.last) 0), .int .u64 (word (x.last) 1), .int .u64 (word (x.last) 2), .int .u64 (word (x.last) 3), .bool x.none] 53) = wl at *
 have hsep := ur1
 have hgm := uG1
 generalize w1.heap.size = ba at *
 go_loopw [7] (fun e7 wr => ∃ (x : Rx.Pce) (er : Int) (j g1 cap1 : Nat) (n1 : Rx.Nt), e7 = .int .i64 er ∧ ChSt inner l T n x er j n1 ∧ g1 ≠ ba ∧ g1 ≠ w.heap.size ∧ ba < wr.heap.size ∧ At wr ba [.int .u64 (word (x.first) 0), .int .u64 (word (x.first) 1), .int .u64 (word (x.first) 2), .int .u64 (word (x.first) 3), .int .u64 (word (x.last) 0), .int .u64 (word (x.last) 1), .int .u64 (word (x.last) 2), .int .u64 (word (x.last) 3), .bool x.none] ∧ At wr w.heap.size [.int .u64 0, .int .u64 0, .int .u64 0, .int .u64 0, .int .u64 0, .int .u64 0, .int .u64 0, .int .u64 0, .bool false] ∧ Rd base b g1 cap1 s l j n1 wr ∧ Kp b g w g1 wr) (fun e7 wr => l.length - placeOf wr b)
 case atStart => exact ⟨x, er, j, _, _, n1, rfl, HST.out, by omega, by omega, Da.lt, Da, Dr, R, P⟩
 case round =>
  clear Da Dr R P HST
  obtain ⟨x, er, j, g0, cap0, n1, rfl, hst, hq1, hq2, hz, Da, Dr, R, P⟩ := hrel
  have hMM := place_rd R
  have HM := Lib.hid hMM
  clear hMM
  have hjl := R.kl
  have hz2 := Dr.lt
  rcases hst with ⟨rfl, hnl, f, acc, hT, hf, hx, hn1⟩ | ⟨er, rfl, her, hT, hlen⟩
  ·
   have HX := Lib.hid hx
   have HN := Lib.hid hn1
   clear hx hn1
   by_cases h124 : Rx.pk l j = 124
   ·
    have hj := Rx.pk_lt (l := l) (k := j) (by omega)
    have HSTEP := Lib.hid (fun x2 er2 j2 n2 h => choice_step hi (x2 := x2) (er2 := er2) (j2 := j2) (n2 := n2) hj hnl hT hf HX.out HN.out h124 h)
    have H124 := Lib.hid h124
    clear hT HX HN h124
    have fr := Dr.f9
    have fa := Da.f9
    have fR := R.f
    go_wp2_with fail
    clear fr fa fR
    have ltr := Dr.lt
    have lta := Da.lt
    refine (skip_yes base b _ _ j s l _ _ R 124 hj H124.out).mono ?_
    rintro e w2 ⟨g2, cap2, rfl, R2, K2⟩
    have hrow := K2.row
    have qr2 : g2 ≠ w.heap.size := by omega
    have qa2 : g2 ≠ ba := by omega
    have Dr := Dr.kp K2 (by omega) (by omega)
    have Da := Da.kp K2 (by omega) (by omega)
    have P := P.trans K2
    have R := R2
    clear R2 K2 hrow ltr lta
    have fr := Dr.f9
    have fa := Da.f9
    have fR := R.f
    go_wp2_with fail
    clear fr fa fR
    have ur2 := Dr.lt
    have ua2 := Da.lt
    have uG2 := R.lt.2.1
    have Do : At ((w2).alloc (.cells #[.int .u64 0, .int .u64 0, .int .u64 0, .int .u64 0, .int .u64 0, .int .u64 0, .int .u64 0, .int .u64 0, .bool false] 53)) (w2.heap.size) [.int .u64 0, .int .u64 0, .int .u64 0, .int .u64 0, .int .u64 0, .int .u64 0, .int .u64 0, .int .u64 0, .bool false] := by have h := (At.new (w2) #[.int .u64 0, .int .u64 0, .int .u64 0, .int .u64 0, .int .u64 0, .int .u64 0, .int .u64 0, .int .u64 0, .bool false] 53); simpa using h
    have Dr := (Dr.alloc (.cells #[.int .u64 0, .int .u64 0, .int .u64 0, .int .u64 0, .int .u64 0, .int .u64 0, .int .u64 0, .int .u64 0, .bool false] 53))
    have Da := (Da.alloc (.cells #[.int .u64 0, .int .u64 0, .int .u64 0, .int .u64 0, .int .u64 0, .int .u64 0, .int .u64 0, .int .u64 0, .bool false] 53))
    have R := (R.alloc (.cells #[.int .u64 0, .int .u64 0, .int .u64 0, .int .u64 0, .int .u64 0, .int .u64 0, .int .u64 0, .int .u64 0, .bool false] 53))
    have P := (P.alloc (.cells #[.int .u64 0, .int .u64 0, .int .u64 0, .int .u64 0, .int .u64 0, .int .u64 0, .int .u64 0, .int .u64 0, .bool false] 53))
    have ltr := Dr.lt
    have lta := Da.lt
    have lto := Do.lt
    refine (HA _ _ (j + 1) n1 _ R (by omega)).mono ?_
    rintro e w3 ⟨x2, er2, g3, cap3, n2, j2, rfl, hst, R2, K2⟩
    have hrow := K2.row
    have qr3 : g3 ≠ w.heap.size := by omega
    have qa3 : g3 ≠ ba := by omega
    have qo3 : g3 ≠ w2.heap.size := by omega
    have Dr := Dr.kp K2 (by omega) (by omega)
    have Da := Da.kp K2 (by omega) (by omega)
    have Do := Do.kp K2 (by omega) (by omega)
    have P := P.trans K2
    have R := R2
    clear R2 K2 hrow ltr lta lto
    have fr := Dr.f9
    have fa := Da.f9
    have fo := Do.f9
    have fR := R.f
    have hst := HSTEP.out _ _ _ _ hst
    have HST := Lib.hid hst
    clear hst HSTEP
    clear fr fa fo fR
    have fr := Dr.f9
    have fa := Da.f9
    have fo := Do.f9
    have fR := R.f
    go_wp2_with fail
    clear fr fa fo fR
    have Dr := (Dr.fars9 (w2.heap.size) (by omega) (.int .u64 (word (x2.first) 0)) (.int .u64 (word (x2.first) 1)) (.int .u64 (word (x2.first) 2)) (.int .u64 (word (x2.first) 3)) (.int .u64 (word (x2.last) 0)) (.int .u64 (word (x2.last) 1)) (.int .u64 (word (x2.last) 2)) (.int .u64 (word (x2.last) 3)) (.bool x2.none))
    have Da := (Da.fars9 (w2.heap.size) (by omega) (.int .u64 (word (x2.first) 0)) (.int .u64 (word (x2.first) 1)) (.int .u64 (word (x2.first) 2)) (.int .u64 (word (x2.first) 3)) (.int .u64 (word (x2.last) 0)) (.int .u64 (word (x2.last) 1)) (.int .u64 (word (x2.last) 2)) (.int .u64 (word (x2.last) 3)) (.bool x2.none))
    have Do := (Do.puts9 (.int .u64 (word (x2.first) 0)) (.int .u64 (word (x2.first) 1)) (.int .u64 (word (x2.first) 2)) (.int .u64 (word (x2.first) 3)) (.int .u64 (word (x2.last) 0)) (.int .u64 (word (x2.last) 1)) (.int .u64 (word (x2.last) 2)) (.int .u64 (word (x2.last) 3)) (.bool x2.none))
    have R := (R.fars9 (w2.heap.size) (by omega) (by omega) (by omega) (.int .u64 (word (x2.first) 0)) (.int .u64 (word (x2.first) 1)) (.int .u64 (word (x2.first) 2)) (.int .u64 (word (x2.first) 3)) (.int .u64 (word (x2.last) 0)) (.int .u64 (word (x2.last) 1)) (.int .u64 (word (x2.last) 2)) (.int .u64 (word (x2.last) 3)) (.bool x2.none))
    have P := (P.sets9 (w2.heap.size) (by omega) (.int .u64 (word (x2.first) 0)) (.int .u64 (word (x2.first) 1)) (.int .u64 (word (x2.first) 2)) (.int .u64 (word (x2.first) 3)) (.int .u64 (word (x2.last) 0)) (.int .u64 (word (x2.last) 1)) (.int .u64 (word (x2.last) 2)) (.int .u64 (word (x2.last) 3)) (.bool x2.none))
    refine (either_w x x2 _).mono ?_
    rintro e w4 ⟨rfl, hb4⟩
    have Dr := Dr.below hb4
    have Da := Da.below hb4
    have Do := Do.below hb4
    have R := R.below hb4
    have P := P.below hb4
    clear hb4
    have fr := Dr.f9
    have fa := Da.f9
    have fo := Do.f9
    have fR := R.f
    clear fr fa fo fR
    have fr := Dr.f9
    have fa := Da.f9
    have fo := Do.f9
    have fR := R.f
    go_wp2
    clear fr fa fo fR
    have Dr := (Dr.fars9 ba (by omega) (.int .u64 (word ((altP x x2).first) 0)) (.int .u64 (word ((altP x x2).first) 1)) (.int .u64 (word ((altP x x2).first) 2)) (.int .u64 (word ((altP x x2).first) 3)) (.int .u64 (word ((altP x x2).last) 0)) (.int .u64 (word ((altP x x2).last) 1)) (.int .u64 (word ((altP x x2).last) 2)) (.int .u64 (word ((altP x x2).last) 3)) (.bool (altP x x2).none))
    have Da := (Da.puts9 (.int .u64 (word ((altP x x2).first) 0)) (.int .u64 (word ((altP x x2).first) 1)) (.int .u64 (word ((altP x x2).first) 2)) (.int .u64 (word ((altP x x2).first) 3)) (.int .u64 (word ((altP x x2).last) 0)) (.int .u64 (word ((altP x x2).last) 1)) (.int .u64 (word ((altP x x2).last) 2)) (.int .u64 (word ((altP x x2).last) 3)) (.bool (altP x x2).none))
    have Do := (Do.fars9 ba (by omega) (.int .u64 (word ((altP x x2).first) 0)) (.int .u64 (word ((altP x x2).first) 1)) (.int .u64 (word ((altP x x2).first) 2)) (.int .u64 (word ((altP x x2).first) 3)) (.int .u64 (word ((altP x x2).last) 0)) (.int .u64 (word ((altP x x2).last) 1)) (.int .u64 (word ((altP x x2).last) 2)) (.int .u64 (word ((altP x x2).last) 3)) (.bool (altP x x2).none))
    have R := (R.fars9 ba (by omega) (by omega) (by omega) (.int .u64 (word ((altP x x2).first) 0)) (.int .u64 (word ((altP x x2).first) 1)) (.int .u64 (word ((altP x x2).first) 2)) (.int .u64 (word ((altP x x2).first) 3)) (.int .u64 (word ((altP x x2).last) 0)) (.int .u64 (word ((altP x x2).last) 1)) (.int .u64 (word ((altP x x2).last) 2)) (.int .u64 (word ((altP x x2).last) 3)) (.bool (altP x x2).none))
    have P := (P.sets9 ba (by omega) (.int .u64 (word ((altP x x2).first) 0)) (.int .u64 (word ((altP x x2).first) 1)) (.int .u64 (word ((altP x x2).first) 2)) (.int .u64 (word ((altP x x2).first) 3)) (.int .u64 (word ((altP x x2).last) 0)) (.int .u64 (word ((altP x x2).last) 1)) (.int .u64 (word ((altP x x2).last) 2)) (.int .u64 (word ((altP x x2).last) 3)) (.bool (altP x x2).none))
    have hM2 := place_rd R
    have hz3 := Da.lt
    have hM1 := HM.out
    go_roundw
    case rel => exact ⟨altP x x2, er2, j2, _, _, n2, rfl, HST.out.1, by omega, by omega, hz3, Da, Dr, R, P⟩
    case measure =>
     have h := HST.out.2
     have hjl2 := R.kl
     simp only [hM1, hM2]
     omega
   ·
    have hov := choice_over hT hf HX.out HN.out h124
    have HOV := Lib.hid hov
    have H124 := Lib.hid h124
    clear hov hT HX HN h124
    have fr := Dr.f9
    have fa := Da.f9
    have fR := R.f
    go_wp2_with fail
    clear fr fa fR
    refine (skip_no base b _ _ j s l _ _ R 124 H124.out).mono ?_
    rintro e w2 ⟨rfl, hb2⟩
    have Dr := Dr.below hb2
    have Da := Da.below hb2
    have R := R.below hb2
    have P := P.below hb2
    clear hb2
    have fr := Dr.f9
    have fa := Da.f9
    have fR := R.f
    clear fr fa fR
    have fr := Dr.f9
    have fa := Da.f9
    have fR := R.f
    go_wp2
    clear fr fa fR
    have Dr := (Dr.puts9 (.int .u64 (word (x.first) 0)) (.int .u64 (word (x.first) 1)) (.int .u64 (word (x.first) 2)) (.int .u64 (word (x.first) 3)) (.int .u64 (word (x.last) 0)) (.int .u64 (word (x.last) 1)) (.int .u64 (word (x.last) 2)) (.int .u64 (word (x.last) 3)) (.bool x.none))
    have Da := (Da.fars9 (w.heap.size) (by omega) (.int .u64 (word (x.first) 0)) (.int .u64 (word (x.first) 1)) (.int .u64 (word (x.first) 2)) (.int .u64 (word (x.first) 3)) (.int .u64 (word (x.last) 0)) (.int .u64 (word (x.last) 1)) (.int .u64 (word (x.last) 2)) (.int .u64 (word (x.last) 3)) (.bool x.none))
    have R := (R.fars9 (w.heap.size) (by omega) (by omega) (by omega) (.int .u64 (word (x.first) 0)) (.int .u64 (word (x.first) 1)) (.int .u64 (word (x.first) 2)) (.int .u64 (word (x.first) 3)) (.int .u64 (word (x.last) 0)) (.int .u64 (word (x.last) 1)) (.int .u64 (word (x.last) 2)) (.int .u64 (word (x.last) 3)) (.bool x.none))
    have P := (P.sets9 (w.heap.size) (by omega) (.int .u64 (word (x.first) 0)) (.int .u64 (word (x.first) 1)) (.int .u64 (word (x.first) 2)) (.int .u64 (word (x.first) 3)) (.int .u64 (word (x.last) 0)) (.int .u64 (word (x.last) 1)) (.int .u64 (word (x.last) 2)) (.int .u64 (word (x.last) 3)) (.bool x.none))
    have fr := Dr.f9
    have fa := Da.f9
    have fR := R.f
    refine bodyPost_ret (v := .tuple #[.agg #[.int .u64 (word (x.first) 0), .int .u64 (word (x.first) 1), .int .u64 (word (x.first) 2), .int .u64 (word (x.first) 3), .int .u64 (word (x.last) 0), .int .u64 (word (x.last) 1), .int .u64 (word (x.last) 2), .int .u64 (word (x.last) 3), .bool x.none], .int .i64 0]) (by simp [results, Tryd.results28, go_sem, fr]; try rfl) rfl ?_
    exact ⟨x, 0, _, _, n1, j, rfl, HOV.out, R, P⟩
  ·
   have hne : ((er : Int) == 0) = false := by rw [beq_eq_false_iff_ne]; omega
   have hov : PSt n T x (er : Int) j n1 := by rw [hT]; exact ⟨rfl, rfl, hlen⟩
   have HOV := Lib.hid hov
   clear hov hT
   have fr := Dr.f9
   have fa := Da.f9
   have fR := R.f
   go_wp2
   clear fr fa fR
   have Dr := (Dr.puts9 (.int .u64 (word (x.first) 0)) (.int .u64 (word (x.first) 1)) (.int .u64 (word (x.first) 2)) (.int .u64 (word (x.first) 3)) (.int .u64 (word (x.last) 0)) (.int .u64 (word (x.last) 1)) (.int .u64 (word (x.last) 2)) (.int .u64 (word (x.last) 3)) (.bool x.none))
   have Da := (Da.fars9 (w.heap.size) (by omega) (.int .u64 (word (x.first) 0)) (.int .u64 (word (x.first) 1)) (.int .u64 (word (x.first) 2)) (.int .u64 (word (x.first) 3)) (.int .u64 (word (x.last) 0)) (.int .u64 (word (x.last) 1)) (.int .u64 (word (x.last) 2)) (.int .u64 (word (x.last) 3)) (.bool x.none))
   have R := (R.fars9 (w.heap.size) (by omega) (by omega) (by omega) (.int .u64 (word (x.first) 0)) (.int .u64 (word (x.first) 1)) (.int .u64 (word (x.first) 2)) (.int .u64 (word (x.first) 3)) (.int .u64 (word (x.last) 0)) (.int .u64 (word (x.last) 1)) (.int .u64 (word (x.last) 2)) (.int .u64 (word (x.last) 3)) (.bool x.none))
   have P := (P.sets9 (w.heap.size) (by omega) (.int .u64 (word (x.first) 0)) (.int .u64 (word (x.first) 1)) (.int .u64 (word (x.first) 2)) (.int .u64 (word (x.first) 3)) (.int .u64 (word (x.last) 0)) (.int .u64 (word (x.last) 1)) (.int .u64 (word (x.last) 2)) (.int .u64 (word (x.last) 3)) (.bool x.none))
   have fr := Dr.f9
   have fa := Da.f9
   have fR := R.f
   refine bodyPost_ret (v := .tuple #[.agg #[.int .u64 (word (x.first) 0), .int .u64 (word (x.first) 1), .int .u64 (word (x.first) 2), .int .u64 (word (x.first) 3), .int .u64 (word (x.last) 0), .int .u64 (word (x.last) 1), .int .u64 (word (x.last) 2), .int .u64 (word (x.last) 3), .bool x.none], .int .i64 (er : Int)]) (by simp [results, Tryd.results28, go_sem, fr]; try rfl) rfl ?_
   exact ⟨x, (er : Int), _, _, n1, j, rfl, HOV.out, R, P⟩
end Go.Proofs.YtcfdpbbpdnpnnaaDoor
