/- regex's reader: choice. -/
import Derived.Test.YtcfdpbbpdnpnnaaDoorRow
import Derived.Test.YtcfdpbbpdnpnnaaDoorEither
namespace Go.Proofs.YtcfdpbbpdnpnnaaDoor
open Go Go.Proofs Go.RowKit Go.Shelf
set_option maxRecDepth 100000
attribute [local go_sem] cell_set
def ChoiceOK (base b : Nat) (s : ByteArray) (l : List UInt8) (deep : Int) (at_ : Nat → Rx.Res Rx.Pt) : Prop :=
  ∀ (g cap k : Nat) (n : Rx.Nt) (w : World), Rd base b g cap s l k n w → n.length ≤ k + 1 → Calls Tryd.prog 28 #[.pointer (some ⟨b, 0, none⟩), .int .i64 deep] w (PU base b g w s l n (at_ k))
def altP (x y : Rx.Pce) : Rx.Pce := ⟨x.first ||| y.first, x.last ||| y.last, x.none || y.none⟩
/-- between two rows -/
def ChSt (inner : Nat → Rx.Res Rx.Pt) (l : List UInt8) (T : Rx.Res Rx.Pt) (n : Rx.Nt) (x : Rx.Pce) (er : Int) (j : Nat) (n1 : Rx.Nt) : Prop :=
  (er = 0 ∧ n1.length ≤ j + 1 ∧ ∃ f acc, T = Rx.choiceL inner l f j acc ∧ l.length - j < f ∧ x = (Rx.build acc n).1 ∧ n1 = (Rx.build acc n).2) ∨ (∃ e : Nat, er = (e : Int) ∧ (e = 2 ∨ e = 4) ∧ T = .bad e j ∧ n.length ≤ n1.length)
theorem build_nil (p : Rx.Pt) (n : Rx.Nt) : Rx.build (.alt .nil p) n = Rx.build p n := by
  simp only [Rx.build, Nat.zero_or, Bool.false_or]
theorem choice_start {inner : Nat → Rx.Res Rx.Pt} {l : List UInt8} (hi : ∀ k, Rx.pk l k = 40 → Rx.Goes l k (inner k) (Rx.Few k)) {n n1 : Rx.Nt} {x : Rx.Pce} {er : Int} {k j : Nat} (hk : k ≤ l.length) (hn : n.length ≤ k + 1) (h : PSt n (Rx.rowF inner l k) x er j n1) : ChSt inner l (Rx.choiceF inner l k) n x er j n1 := by
  have g := Rx.row_goes hi hk
  unfold Rx.choiceF
  cases hr : Rx.rowF inner l k with
  | ok p i =>
    rw [hr] at h g
    obtain ⟨h1, h2, h3, h4⟩ := h
    obtain ⟨g1, g2, g3⟩ := g
    subst h3
    unfold Rx.Few at g3
    refine .inl ⟨h2, ?_, l.length + 1, .alt .nil p, rfl, by omega, by rw [build_nil]; exact h1, by rw [build_nil]; exact h4⟩
    rw [h4, Rx.build_length]; omega
  | bad e i =>
    rw [hr] at h g
    obtain ⟨h1, h2, h3⟩ := h
    subst h2
    exact .inr ⟨e, h1, g.2.2, rfl, h3⟩
theorem choice_step {inner : Nat → Rx.Res Rx.Pt} {l : List UInt8} (hi : ∀ k, Rx.pk l k = 40 → Rx.Goes l k (inner k) (Rx.Few k)) {T : Rx.Res Rx.Pt} {n n1 n2 : Rx.Nt} {x x2 : Rx.Pce} {er2 : Int} {f j j2 : Nat} {acc : Rx.Pt} (hj : j < l.length) (hn1 : n1.length ≤ j + 1) (hT : T = Rx.choiceL inner l f j acc) (hf : l.length - j < f) (hx : x = (Rx.build acc n).1) (hn : n1 = (Rx.build acc n).2) (he : Rx.pk l j = 124) (h : PSt n1 (Rx.rowF inner l (j + 1)) x2 er2 j2 n2) :
    ChSt inner l T n (altP x x2) er2 j2 n2 ∧ j < j2 := by
  obtain ⟨f, rfl⟩ : ∃ f', f = f' + 1 := ⟨f - 1, by omega⟩
  have g := Rx.row_goes hi (l := l) (k := j + 1) (by omega)
  have nl : n.length ≤ n1.length := by rw [hn, Rx.build_length]; omega
  unfold Rx.choiceL at hT
  rw [if_pos he] at hT
  cases hr : Rx.rowF inner l (j + 1) with
  | ok p i =>
    rw [hr] at h g hT
    obtain ⟨h1, h2, h3, h4⟩ := h
    obtain ⟨g1, g2, g3⟩ := g
    subst h3
    unfold Rx.Few at g3
    refine ⟨.inl ⟨h2, by rw [h4, Rx.build_length]; omega, f, .alt acc p, hT, by omega, ?_, ?_⟩, by omega⟩
    · rw [hx, h1, hn]; rfl
    · rw [h4, hn]; rfl
  | bad e i =>
    rw [hr] at h g hT
    obtain ⟨h1, h2, h3⟩ := h
    subst h2
    exact ⟨.inr ⟨e, h1, g.2.2, hT, by omega⟩, by have := g.1; omega⟩
theorem choice_over {inner : Nat → Rx.Res Rx.Pt} {l : List UInt8} {T : Rx.Res Rx.Pt} {n n1 : Rx.Nt} {x : Rx.Pce} {f j : Nat} {acc : Rx.Pt} (hT : T = Rx.choiceL inner l f j acc) (hf : l.length - j < f) (hx : x = (Rx.build acc n).1) (hn : n1 = (Rx.build acc n).2) (he : Rx.pk l j ≠ 124) : PSt n T x 0 j n1 := by
  obtain ⟨f, rfl⟩ : ∃ f', f = f' + 1 := ⟨f - 1, by omega⟩
  unfold Rx.choiceL at hT
  rw [if_neg he] at hT
  subst hT
  exact ⟨hx, rfl, rfl, hn⟩
theorem either_w (x y : Rx.Pce) (w : World) :
    Calls Tryd.prog 39 #[.agg #[.int .u64 (word (x.first) 0), .int .u64 (word (x.first) 1), .int .u64 (word (x.first) 2), .int .u64 (word (x.first) 3), .int .u64 (word (x.last) 0), .int .u64 (word (x.last) 1), .int .u64 (word (x.last) 2), .int .u64 (word (x.last) 3), .bool x.none], .agg #[.int .u64 (word (y.first) 0), .int .u64 (word (y.first) 1), .int .u64 (word (y.first) 2), .int .u64 (word (y.first) 3), .int .u64 (word (y.last) 0), .int .u64 (word (y.last) 1), .int .u64 (word (y.last) 2), .int .u64 (word (y.last) 3), .bool y.none]] w fun e w' => e = .returned (.agg #[.int .u64 (word ((altP x y).first) 0), .int .u64 (word ((altP x y).first) 1), .int .u64 (word ((altP x y).first) 2), .int .u64 (word ((altP x y).first) 3), .int .u64 (word ((altP x y).last) 0), .int .u64 (word ((altP x y).last) 1), .int .u64 (word ((altP x y).last) 2), .int .u64 (word ((altP x y).last) 3), .bool (altP x y).none]) ∧ Below w.heap.size w w' := either_any x y w
set_option maxHeartbeats 8000000 in
theorem choice_any (base b : Nat) (s : ByteArray) (l : List UInt8) (deep : Int) (inner : Nat → Rx.Res Rx.Pt) (hi : ∀ k, Rx.pk l k = 40 → Rx.Goes l k (inner k) (Rx.Few k)) (HA : RowOK base b s l deep (Rx.rowF inner l)) : ChoiceOK base b s l deep (Rx.choiceF inner l) := by
  intro g cap k n w R hn
  have P := Kp.refl b g w
  have hl64 := R.ll
  have hkl := R.kl
  obtain ⟨hbs, hgs, hts⟩ := R.lt
  have hb1 := R.b1
  have hst0 := fun x er j n1 h => choice_start hi (n := n) (x := x) (er := er) (j := j) (n1 := n1) hkl hn h
  have HST0 := Lib.hid hst0
  clear hst0
  generalize hT0 : Rx.choiceF inner l k = T at *
  clear hT0
  go_enter Tryd.func28, Tryd.ntmps28
  go_wp2_with fail
  have uG0 := R.lt.2.1
  have Dr : At ((w).alloc (.cells #[.int .u64 0, .int .u64 0, .int .u64 0, .int .u64 0, .int .u64 0, .int .u64 0, .int .u64 0, .int .u64 0, .bool false] 53)) (w.heap.size) [.int .u64 0, .int .u64 0, .int .u64 0, .int .u64 0, .int .u64 0, .int .u64 0, .int .u64 0, .int .u64 0, .bool false] := by have h := (At.new (w) #[.int .u64 0, .int .u64 0, .int .u64 0, .int .u64 0, .int .u64 0, .int .u64 0, .int .u64 0, .int .u64 0, .bool false] 53); simpa using h
  have R := (R.alloc (.cells #[.int .u64 0, .int .u64 0, .int .u64 0, .int .u64 0, .int .u64 0, .int .u64 0, .int .u64 0, .int .u64 0, .bool false] 53))
  have P := (P.alloc (.cells #[.int .u64 0, .int .u64 0, .int .u64 0, .int .u64 0, .int .u64 0, .int .u64 0, .int .u64 0, .int .u64 0, .bool false] 53))
  have ltr := Dr.lt
  refine (HA _ _ k n _ R hn).mono ?_
  rintro e w1 ⟨x, er, g1, cap1, n1, j, rfl, hst, R2, K2⟩
  have hrow := K2.row
  have qr1 : g1 ≠ w.heap.size := by omega
  have Dr := Dr.kp K2 (by omega) (by omega)
  have P := P.trans K2
  have R := R2
  clear R2 K2 hrow ltr
  have ar0 := Dr.cell 0 _ rfl
  have zr0 := Dr.free 0 _ rfl
  have ar1 := Dr.cell 1 _ rfl
  have zr1 := Dr.free 1 _ rfl
  have ar2 := Dr.cell 2 _ rfl
  have zr2 := Dr.free 2 _ rfl
  have ar3 := Dr.cell 3 _ rfl
  have zr3 := Dr.free 3 _ rfl
  have ar4 := Dr.cell 4 _ rfl
  have zr4 := Dr.free 4 _ rfl
  have ar5 := Dr.cell 5 _ rfl
  have zr5 := Dr.free 5 _ rfl
  have ar6 := Dr.cell 6 _ rfl
  have zr6 := Dr.free 6 _ rfl
  have ar7 := Dr.cell 7 _ rfl
  have zr7 := Dr.free 7 _ rfl
  have ar8 := Dr.cell 8 _ rfl
  have zr8 := Dr.free 8 _ rfl
  have nr := Dr.lt
  have aR0 := R.cells.cell 0 _ rfl
  have aR1 := R.cells.cell 1 _ rfl
  have aR2 := R.cells.cell 2 _ rfl
  have zR1 := R.cells.free 1 _ rfl
  have zR2 := R.cells.free 2 _ rfl
  have nR := R.lt.1
  have nG := R.lt.2.1
  have kR := R.kl
  have hst := HST0.out _ _ _ _ hst
  have HST := Lib.hid hst
  clear hst HST0
  clear ar0 zr0 ar1 zr1 ar2 zr2 ar3 zr3 ar4 zr4 ar5 zr5 ar6 zr6 ar7 zr7 ar8 zr8 nr aR0 aR1 aR2 zR1 zR2 nR nG kR
  have ar0 := Dr.cell 0 _ rfl
  have zr0 := Dr.free 0 _ rfl
  have ar1 := Dr.cell 1 _ rfl
  have zr1 := Dr.free 1 _ rfl
  have ar2 := Dr.cell 2 _ rfl
  have zr2 := Dr.free 2 _ rfl
  have ar3 := Dr.cell 3 _ rfl
  have zr3 := Dr.free 3 _ rfl
  have ar4 := Dr.cell 4 _ rfl
  have zr4 := Dr.free 4 _ rfl
  have ar5 := Dr.cell 5 _ rfl
  have zr5 := Dr.free 5 _ rfl
  have ar6 := Dr.cell 6 _ rfl
  have zr6 := Dr.free 6 _ rfl
  have ar7 := Dr.cell 7 _ rfl
  have zr7 := Dr.free 7 _ rfl
  have ar8 := Dr.cell 8 _ rfl
  have zr8 := Dr.free 8 _ rfl
  have nr := Dr.lt
  have aR0 := R.cells.cell 0 _ rfl
  have aR1 := R.cells.cell 1 _ rfl
  have aR2 := R.cells.cell 2 _ rfl
  have zR1 := R.cells.free 1 _ rfl
  have zR2 := R.cells.free 2 _ rfl
  have nR := R.lt.1
  have nG := R.lt.2.1
  have kR := R.kl
  go_wp2_with fail
  clear ar0 zr0 ar1 zr1 ar2 zr2 ar3 zr3 ar4 zr4 ar5 zr5 ar6 zr6 ar7 zr7 ar8 zr8 nr aR0 aR1 aR2 zR1 zR2 nR nG kR
  have ur1 := Dr.lt
  have uG1 := R.lt.2.1
  have Da : At ((w1).alloc (.cells #[.int .u64 (word (x.first) 0), .int .u64 (word (x.first) 1), .int .u64 (word (x.first) 2), .int .u64 (word (x.first) 3), .int .u64 (word (x.last) 0), .int .u64 (word (x.last) 1), .int .u64 (word (x.last) 2), .int .u64 (word (x.last) 3), .bool x.none] 53)) (w1.heap.size) [.int .u64 (word (x.first) 0), .int .u64 (word (x.first) 1), .int .u64 (word (x.first) 2), .int .u64 (word (x.first) 3), .int .u64 (word (x.last) 0), .int .u64 (word (x.last) 1), .int .u64 (word (x.last) 2), .int .u64 (word (x.last) 3), .bool x.none] := by have h := (At.new (w1) #[.int .u64 (word (x.first) 0), .int .u64 (word (x.first) 1), .int .u64 (word (x.first) 2), .int .u64 (word (x.first) 3), .int .u64 (word (x.last) 0), .int .u64 (word (x.last) 1), .int .u64 (word (x.last) 2), .int .u64 (word (x.last) 3), .bool x.none] 53); simpa using h
  have Dr : At ((w1).alloc (.cells #[.int .u64 (word (x.first) 0), .int .u64 (word (x.first) 1), .int .u64 (word (x.first) 2), .int .u64 (word (x.first) 3), .int .u64 (word (x.last) 0), .int .u64 (word (x.last) 1), .int .u64 (word (x.last) 2), .int .u64 (word (x.last) 3), .bool x.none] 53)) (w.heap.size) [.int .u64 0, .int .u64 0, .int .u64 0, .int .u64 0, .int .u64 0, .int .u64 0, .int .u64 0, .int .u64 0, .bool false] := (Dr.alloc (.cells #[.int .u64 (word (x.first) 0), .int .u64 (word (x.first) 1), .int .u64 (word (x.first) 2), .int .u64 (word (x.first) 3), .int .u64 (word (x.last) 0), .int .u64 (word (x.last) 1), .int .u64 (word (x.last) 2), .int .u64 (word (x.last) 3), .bool x.none] 53))
  have R := (R.alloc (.cells #[.int .u64 (word (x.first) 0), .int .u64 (word (x.first) 1), .int .u64 (word (x.first) 2), .int .u64 (word (x.first) 3), .int .u64 (word (x.last) 0), .int .u64 (word (x.last) 1), .int .u64 (word (x.last) 2), .int .u64 (word (x.last) 3), .bool x.none] 53))
  have P := (P.alloc (.cells #[.int .u64 (word (x.first) 0), .int .u64 (word (x.first) 1), .int .u64 (word (x.first) 2), .int .u64 (word (x.first) 3), .int .u64 (word (x.last) 0), .int .u64 (word (x.last) 1), .int .u64 (word (x.last) 2), .int .u64 (word (x.last) 3), .bool x.none] 53))
  generalize (w1).alloc (.cells #[.int .u64 (word (x.first) 0), .int .u64 (word (x.first) 1), .int .u64 (word (x.first) 2), .int .u64 (word (x.first) 3), .int .u64 (word (x.last) 0), .int .u64 (word (x.last) 1), .int .u64 (word (x.last) 2), .int .u64 (word (x.last) 3), .bool x.none] 53) = wl at *
  have hsep := ur1
  have hgm := uG1
  generalize w1.heap.size = ba at *
  go_loopw [7] (fun e7 wr => ∃ (x : Rx.Pce) (er : Int) (j g1 cap1 : Nat) (n1 : Rx.Nt), e7 = .int .i64 er ∧ ChSt inner l T n x er j n1 ∧ g1 ≠ ba ∧ g1 ≠ w.heap.size ∧ ba < wr.heap.size ∧ At wr ba [.int .u64 (word (x.first) 0), .int .u64 (word (x.first) 1), .int .u64 (word (x.first) 2), .int .u64 (word (x.first) 3), .int .u64 (word (x.last) 0), .int .u64 (word (x.last) 1), .int .u64 (word (x.last) 2), .int .u64 (word (x.last) 3), .bool x.none] ∧ At wr w.heap.size [.int .u64 0, .int .u64 0, .int .u64 0, .int .u64 0, .int .u64 0, .int .u64 0, .int .u64 0, .int .u64 0, .bool false] ∧ Rd base b g1 cap1 s l j n1 wr ∧ Kp b g w g1 wr) (fun e7 wr => l.length - placeOf wr b)
  case atStart => exact ⟨x, er, j, _, _, n1, rfl, HST.out, by omega, by omega, Da.lt, Da, Dr, R, P⟩
  case round =>
    clear Da Dr R P HST
    obtain ⟨x, er, j, g0, cap0, n1, rfl, hst, hq1, hq2, hz, Da, Dr, R, P⟩ := hrel
    have hMM := place_rd R
    have HM := Lib.hid hMM
    clear hMM
    have hjl := R.kl
    have hz2 := Dr.lt
    rcases hst with ⟨rfl, hnl, f, acc, hT, hf, hx, hn1⟩ | ⟨er, rfl, her, hT, hlen⟩
    · have HX := Lib.hid hx
      have HN := Lib.hid hn1
      clear hx hn1
      by_cases h124 : Rx.pk l j = 124
      · have hj := Rx.pk_lt (l := l) (k := j) (by omega)
        have HSTEP := Lib.hid (fun x2 er2 j2 n2 h => choice_step hi (x2 := x2) (er2 := er2) (j2 := j2) (n2 := n2) hj hnl hT hf HX.out HN.out h124 h)
        have H124 := Lib.hid h124
        clear hT HX HN h124
        have ar0 := Dr.cell 0 _ rfl
        have zr0 := Dr.free 0 _ rfl
        have ar1 := Dr.cell 1 _ rfl
        have zr1 := Dr.free 1 _ rfl
        have ar2 := Dr.cell 2 _ rfl
        have zr2 := Dr.free 2 _ rfl
        have ar3 := Dr.cell 3 _ rfl
        have zr3 := Dr.free 3 _ rfl
        have ar4 := Dr.cell 4 _ rfl
        have zr4 := Dr.free 4 _ rfl
        have ar5 := Dr.cell 5 _ rfl
        have zr5 := Dr.free 5 _ rfl
        have ar6 := Dr.cell 6 _ rfl
        have zr6 := Dr.free 6 _ rfl
        have ar7 := Dr.cell 7 _ rfl
        have zr7 := Dr.free 7 _ rfl
        have ar8 := Dr.cell 8 _ rfl
        have zr8 := Dr.free 8 _ rfl
        have nr := Dr.lt
        have aa0 := Da.cell 0 _ rfl
        have za0 := Da.free 0 _ rfl
        have aa1 := Da.cell 1 _ rfl
        have za1 := Da.free 1 _ rfl
        have aa2 := Da.cell 2 _ rfl
        have za2 := Da.free 2 _ rfl
        have aa3 := Da.cell 3 _ rfl
        have za3 := Da.free 3 _ rfl
        have aa4 := Da.cell 4 _ rfl
        have za4 := Da.free 4 _ rfl
        have aa5 := Da.cell 5 _ rfl
        have za5 := Da.free 5 _ rfl
        have aa6 := Da.cell 6 _ rfl
        have za6 := Da.free 6 _ rfl
        have aa7 := Da.cell 7 _ rfl
        have za7 := Da.free 7 _ rfl
        have aa8 := Da.cell 8 _ rfl
        have za8 := Da.free 8 _ rfl
        have na := Da.lt
        have aR0 := R.cells.cell 0 _ rfl
        have aR1 := R.cells.cell 1 _ rfl
        have aR2 := R.cells.cell 2 _ rfl
        have zR1 := R.cells.free 1 _ rfl
        have zR2 := R.cells.free 2 _ rfl
        have nR := R.lt.1
        have nG := R.lt.2.1
        have kR := R.kl
        go_wp2_with fail
        clear ar0 zr0 ar1 zr1 ar2 zr2 ar3 zr3 ar4 zr4 ar5 zr5 ar6 zr6 ar7 zr7 ar8 zr8 nr aa0 za0 aa1 za1 aa2 za2 aa3 za3 aa4 za4 aa5 za5 aa6 za6 aa7 za7 aa8 za8 na aR0 aR1 aR2 zR1 zR2 nR nG kR
        have ltr := Dr.lt
        have lta := Da.lt
        refine (skip_yes base b _ _ j s l _ _ R 124 hj H124.out).mono ?_
        rintro e w2 ⟨g2, cap2, rfl, R2, K2⟩
        have hrow := K2.row
        have qr2 : g2 ≠ w.heap.size := by omega
        have qa2 : g2 ≠ ba := by omega
        have Dr := Dr.kp K2 (by omega) (by omega)
        have Da := Da.kp K2 (by omega) (by omega)
        have P := P.trans K2
        have R := R2
        clear R2 K2 hrow ltr lta
        have ar0 := Dr.cell 0 _ rfl
        have zr0 := Dr.free 0 _ rfl
        have ar1 := Dr.cell 1 _ rfl
        have zr1 := Dr.free 1 _ rfl
        have ar2 := Dr.cell 2 _ rfl
        have zr2 := Dr.free 2 _ rfl
        have ar3 := Dr.cell 3 _ rfl
        have zr3 := Dr.free 3 _ rfl
        have ar4 := Dr.cell 4 _ rfl
        have zr4 := Dr.free 4 _ rfl
        have ar5 := Dr.cell 5 _ rfl
        have zr5 := Dr.free 5 _ rfl
        have ar6 := Dr.cell 6 _ rfl
        have zr6 := Dr.free 6 _ rfl
        have ar7 := Dr.cell 7 _ rfl
        have zr7 := Dr.free 7 _ rfl
        have ar8 := Dr.cell 8 _ rfl
        have zr8 := Dr.free 8 _ rfl
        have nr := Dr.lt
        have aa0 := Da.cell 0 _ rfl
        have za0 := Da.free 0 _ rfl
        have aa1 := Da.cell 1 _ rfl
        have za1 := Da.free 1 _ rfl
        have aa2 := Da.cell 2 _ rfl
        have za2 := Da.free 2 _ rfl
        have aa3 := Da.cell 3 _ rfl
        have za3 := Da.free 3 _ rfl
        have aa4 := Da.cell 4 _ rfl
        have za4 := Da.free 4 _ rfl
        have aa5 := Da.cell 5 _ rfl
        have za5 := Da.free 5 _ rfl
        have aa6 := Da.cell 6 _ rfl
        have za6 := Da.free 6 _ rfl
        have aa7 := Da.cell 7 _ rfl
        have za7 := Da.free 7 _ rfl
        have aa8 := Da.cell 8 _ rfl
        have za8 := Da.free 8 _ rfl
        have na := Da.lt
        have aR0 := R.cells.cell 0 _ rfl
        have aR1 := R.cells.cell 1 _ rfl
        have aR2 := R.cells.cell 2 _ rfl
        have zR1 := R.cells.free 1 _ rfl
        have zR2 := R.cells.free 2 _ rfl
        have nR := R.lt.1
        have nG := R.lt.2.1
        have kR := R.kl
        go_wp2_with fail
        clear ar0 zr0 ar1 zr1 ar2 zr2 ar3 zr3 ar4 zr4 ar5 zr5 ar6 zr6 ar7 zr7 ar8 zr8 nr aa0 za0 aa1 za1 aa2 za2 aa3 za3 aa4 za4 aa5 za5 aa6 za6 aa7 za7 aa8 za8 na aR0 aR1 aR2 zR1 zR2 nR nG kR
        have ur2 := Dr.lt
        have ua2 := Da.lt
        have uG2 := R.lt.2.1
        have Do : At ((w2).alloc (.cells #[.int .u64 0, .int .u64 0, .int .u64 0, .int .u64 0, .int .u64 0, .int .u64 0, .int .u64 0, .int .u64 0, .bool false] 53)) (w2.heap.size) [.int .u64 0, .int .u64 0, .int .u64 0, .int .u64 0, .int .u64 0, .int .u64 0, .int .u64 0, .int .u64 0, .bool false] := by have h := (At.new (w2) #[.int .u64 0, .int .u64 0, .int .u64 0, .int .u64 0, .int .u64 0, .int .u64 0, .int .u64 0, .int .u64 0, .bool false] 53); simpa using h
        have Dr : At ((w2).alloc (.cells #[.int .u64 0, .int .u64 0, .int .u64 0, .int .u64 0, .int .u64 0, .int .u64 0, .int .u64 0, .int .u64 0, .bool false] 53)) (w.heap.size) [.int .u64 0, .int .u64 0, .int .u64 0, .int .u64 0, .int .u64 0, .int .u64 0, .int .u64 0, .int .u64 0, .bool false] := (Dr.alloc (.cells #[.int .u64 0, .int .u64 0, .int .u64 0, .int .u64 0, .int .u64 0, .int .u64 0, .int .u64 0, .int .u64 0, .bool false] 53))
        have Da : At ((w2).alloc (.cells #[.int .u64 0, .int .u64 0, .int .u64 0, .int .u64 0, .int .u64 0, .int .u64 0, .int .u64 0, .int .u64 0, .bool false] 53)) (ba) [.int .u64 (word (x.first) 0), .int .u64 (word (x.first) 1), .int .u64 (word (x.first) 2), .int .u64 (word (x.first) 3), .int .u64 (word (x.last) 0), .int .u64 (word (x.last) 1), .int .u64 (word (x.last) 2), .int .u64 (word (x.last) 3), .bool x.none] := (Da.alloc (.cells #[.int .u64 0, .int .u64 0, .int .u64 0, .int .u64 0, .int .u64 0, .int .u64 0, .int .u64 0, .int .u64 0, .bool false] 53))
        have R := (R.alloc (.cells #[.int .u64 0, .int .u64 0, .int .u64 0, .int .u64 0, .int .u64 0, .int .u64 0, .int .u64 0, .int .u64 0, .bool false] 53))
        have P := (P.alloc (.cells #[.int .u64 0, .int .u64 0, .int .u64 0, .int .u64 0, .int .u64 0, .int .u64 0, .int .u64 0, .int .u64 0, .bool false] 53))
        have ltr := Dr.lt
        have lta := Da.lt
        have lto := Do.lt
        refine (HA _ _ (j + 1) n1 _ R (by omega)).mono ?_
        rintro e w3 ⟨x2, er2, g3, cap3, n2, j2, rfl, hst, R2, K2⟩
        have hrow := K2.row
        have qr3 : g3 ≠ w.heap.size := by omega
        have qa3 : g3 ≠ ba := by omega
        have qo3 : g3 ≠ w2.heap.size := by omega
        have Dr := Dr.kp K2 (by omega) (by omega)
        have Da := Da.kp K2 (by omega) (by omega)
        have Do := Do.kp K2 (by omega) (by omega)
        have P := P.trans K2
        have R := R2
        clear R2 K2 hrow ltr lta lto
        have ar0 := Dr.cell 0 _ rfl
        have zr0 := Dr.free 0 _ rfl
        have ar1 := Dr.cell 1 _ rfl
        have zr1 := Dr.free 1 _ rfl
        have ar2 := Dr.cell 2 _ rfl
        have zr2 := Dr.free 2 _ rfl
        have ar3 := Dr.cell 3 _ rfl
        have zr3 := Dr.free 3 _ rfl
        have ar4 := Dr.cell 4 _ rfl
        have zr4 := Dr.free 4 _ rfl
        have ar5 := Dr.cell 5 _ rfl
        have zr5 := Dr.free 5 _ rfl
        have ar6 := Dr.cell 6 _ rfl
        have zr6 := Dr.free 6 _ rfl
        have ar7 := Dr.cell 7 _ rfl
        have zr7 := Dr.free 7 _ rfl
        have ar8 := Dr.cell 8 _ rfl
        have zr8 := Dr.free 8 _ rfl
        have nr := Dr.lt
        have aa0 := Da.cell 0 _ rfl
        have za0 := Da.free 0 _ rfl
        have aa1 := Da.cell 1 _ rfl
        have za1 := Da.free 1 _ rfl
        have aa2 := Da.cell 2 _ rfl
        have za2 := Da.free 2 _ rfl
        have aa3 := Da.cell 3 _ rfl
        have za3 := Da.free 3 _ rfl
        have aa4 := Da.cell 4 _ rfl
        have za4 := Da.free 4 _ rfl
        have aa5 := Da.cell 5 _ rfl
        have za5 := Da.free 5 _ rfl
        have aa6 := Da.cell 6 _ rfl
        have za6 := Da.free 6 _ rfl
        have aa7 := Da.cell 7 _ rfl
        have za7 := Da.free 7 _ rfl
        have aa8 := Da.cell 8 _ rfl
        have za8 := Da.free 8 _ rfl
        have na := Da.lt
        have ao0 := Do.cell 0 _ rfl
        have zo0 := Do.free 0 _ rfl
        have ao1 := Do.cell 1 _ rfl
        have zo1 := Do.free 1 _ rfl
        have ao2 := Do.cell 2 _ rfl
        have zo2 := Do.free 2 _ rfl
        have ao3 := Do.cell 3 _ rfl
        have zo3 := Do.free 3 _ rfl
        have ao4 := Do.cell 4 _ rfl
        have zo4 := Do.free 4 _ rfl
        have ao5 := Do.cell 5 _ rfl
        have zo5 := Do.free 5 _ rfl
        have ao6 := Do.cell 6 _ rfl
        have zo6 := Do.free 6 _ rfl
        have ao7 := Do.cell 7 _ rfl
        have zo7 := Do.free 7 _ rfl
        have ao8 := Do.cell 8 _ rfl
        have zo8 := Do.free 8 _ rfl
        have no := Do.lt
        have aR0 := R.cells.cell 0 _ rfl
        have aR1 := R.cells.cell 1 _ rfl
        have aR2 := R.cells.cell 2 _ rfl
        have zR1 := R.cells.free 1 _ rfl
        have zR2 := R.cells.free 2 _ rfl
        have nR := R.lt.1
        have nG := R.lt.2.1
        have kR := R.kl
        have hst := HSTEP.out _ _ _ _ hst
        have HST := Lib.hid hst
        clear hst HSTEP
        clear ar0 zr0 ar1 zr1 ar2 zr2 ar3 zr3 ar4 zr4 ar5 zr5 ar6 zr6 ar7 zr7 ar8 zr8 nr aa0 za0 aa1 za1 aa2 za2 aa3 za3 aa4 za4 aa5 za5 aa6 za6 aa7 za7 aa8 za8 na ao0 zo0 ao1 zo1 ao2 zo2 ao3 zo3 ao4 zo4 ao5 zo5 ao6 zo6 ao7 zo7 ao8 zo8 no aR0 aR1 aR2 zR1 zR2 nR nG kR
        have ar0 := Dr.cell 0 _ rfl
        have zr0 := Dr.free 0 _ rfl
        have ar1 := Dr.cell 1 _ rfl
        have zr1 := Dr.free 1 _ rfl
        have ar2 := Dr.cell 2 _ rfl
        have zr2 := Dr.free 2 _ rfl
        have ar3 := Dr.cell 3 _ rfl
        have zr3 := Dr.free 3 _ rfl
        have ar4 := Dr.cell 4 _ rfl
        have zr4 := Dr.free 4 _ rfl
        have ar5 := Dr.cell 5 _ rfl
        have zr5 := Dr.free 5 _ rfl
        have ar6 := Dr.cell 6 _ rfl
        have zr6 := Dr.free 6 _ rfl
        have ar7 := Dr.cell 7 _ rfl
        have zr7 := Dr.free 7 _ rfl
        have ar8 := Dr.cell 8 _ rfl
        have zr8 := Dr.free 8 _ rfl
        have nr := Dr.lt
        have aa0 := Da.cell 0 _ rfl
        have za0 := Da.free 0 _ rfl
        have aa1 := Da.cell 1 _ rfl
        have za1 := Da.free 1 _ rfl
        have aa2 := Da.cell 2 _ rfl
        have za2 := Da.free 2 _ rfl
        have aa3 := Da.cell 3 _ rfl
        have za3 := Da.free 3 _ rfl
        have aa4 := Da.cell 4 _ rfl
        have za4 := Da.free 4 _ rfl
        have aa5 := Da.cell 5 _ rfl
        have za5 := Da.free 5 _ rfl
        have aa6 := Da.cell 6 _ rfl
        have za6 := Da.free 6 _ rfl
        have aa7 := Da.cell 7 _ rfl
        have za7 := Da.free 7 _ rfl
        have aa8 := Da.cell 8 _ rfl
        have za8 := Da.free 8 _ rfl
        have na := Da.lt
        have ao0 := Do.cell 0 _ rfl
        have zo0 := Do.free 0 _ rfl
        have ao1 := Do.cell 1 _ rfl
        have zo1 := Do.free 1 _ rfl
        have ao2 := Do.cell 2 _ rfl
        have zo2 := Do.free 2 _ rfl
        have ao3 := Do.cell 3 _ rfl
        have zo3 := Do.free 3 _ rfl
        have ao4 := Do.cell 4 _ rfl
        have zo4 := Do.free 4 _ rfl
        have ao5 := Do.cell 5 _ rfl
        have zo5 := Do.free 5 _ rfl
        have ao6 := Do.cell 6 _ rfl
        have zo6 := Do.free 6 _ rfl
        have ao7 := Do.cell 7 _ rfl
        have zo7 := Do.free 7 _ rfl
        have ao8 := Do.cell 8 _ rfl
        have zo8 := Do.free 8 _ rfl
        have no := Do.lt
        have aR0 := R.cells.cell 0 _ rfl
        have aR1 := R.cells.cell 1 _ rfl
        have aR2 := R.cells.cell 2 _ rfl
        have zR1 := R.cells.free 1 _ rfl
        have zR2 := R.cells.free 2 _ rfl
        have nR := R.lt.1
        have nG := R.lt.2.1
        have kR := R.kl
        go_wp2_with fail
        clear ar0 zr0 ar1 zr1 ar2 zr2 ar3 zr3 ar4 zr4 ar5 zr5 ar6 zr6 ar7 zr7 ar8 zr8 nr aa0 za0 aa1 za1 aa2 za2 aa3 za3 aa4 za4 aa5 za5 aa6 za6 aa7 za7 aa8 za8 na ao0 zo0 ao1 zo1 ao2 zo2 ao3 zo3 ao4 zo4 ao5 zo5 ao6 zo6 ao7 zo7 ao8 zo8 no aR0 aR1 aR2 zR1 zR2 nR nG kR
        have Dr : At ((((((((((w3).setCell ⟨w2.heap.size, 0, none⟩ (.int .u64 (word (x2.first) 0))).setCell ⟨w2.heap.size, 1, none⟩ (.int .u64 (word (x2.first) 1))).setCell ⟨w2.heap.size, 2, none⟩ (.int .u64 (word (x2.first) 2))).setCell ⟨w2.heap.size, 3, none⟩ (.int .u64 (word (x2.first) 3))).setCell ⟨w2.heap.size, 4, none⟩ (.int .u64 (word (x2.last) 0))).setCell ⟨w2.heap.size, 5, none⟩ (.int .u64 (word (x2.last) 1))).setCell ⟨w2.heap.size, 6, none⟩ (.int .u64 (word (x2.last) 2))).setCell ⟨w2.heap.size, 7, none⟩ (.int .u64 (word (x2.last) 3))).setCell ⟨w2.heap.size, 8, none⟩ (.bool x2.none)) (w.heap.size) [.int .u64 0, .int .u64 0, .int .u64 0, .int .u64 0, .int .u64 0, .int .u64 0, .int .u64 0, .int .u64 0, .bool false] := (((((((((Dr.far (b' := w2.heap.size) (j := 0) (by omega) (.int .u64 (word (x2.first) 0))).far (b' := w2.heap.size) (j := 1) (by omega) (.int .u64 (word (x2.first) 1))).far (b' := w2.heap.size) (j := 2) (by omega) (.int .u64 (word (x2.first) 2))).far (b' := w2.heap.size) (j := 3) (by omega) (.int .u64 (word (x2.first) 3))).far (b' := w2.heap.size) (j := 4) (by omega) (.int .u64 (word (x2.last) 0))).far (b' := w2.heap.size) (j := 5) (by omega) (.int .u64 (word (x2.last) 1))).far (b' := w2.heap.size) (j := 6) (by omega) (.int .u64 (word (x2.last) 2))).far (b' := w2.heap.size) (j := 7) (by omega) (.int .u64 (word (x2.last) 3))).far (b' := w2.heap.size) (j := 8) (by omega) (.bool x2.none))
        have Da : At ((((((((((w3).setCell ⟨w2.heap.size, 0, none⟩ (.int .u64 (word (x2.first) 0))).setCell ⟨w2.heap.size, 1, none⟩ (.int .u64 (word (x2.first) 1))).setCell ⟨w2.heap.size, 2, none⟩ (.int .u64 (word (x2.first) 2))).setCell ⟨w2.heap.size, 3, none⟩ (.int .u64 (word (x2.first) 3))).setCell ⟨w2.heap.size, 4, none⟩ (.int .u64 (word (x2.last) 0))).setCell ⟨w2.heap.size, 5, none⟩ (.int .u64 (word (x2.last) 1))).setCell ⟨w2.heap.size, 6, none⟩ (.int .u64 (word (x2.last) 2))).setCell ⟨w2.heap.size, 7, none⟩ (.int .u64 (word (x2.last) 3))).setCell ⟨w2.heap.size, 8, none⟩ (.bool x2.none)) (ba) [.int .u64 (word (x.first) 0), .int .u64 (word (x.first) 1), .int .u64 (word (x.first) 2), .int .u64 (word (x.first) 3), .int .u64 (word (x.last) 0), .int .u64 (word (x.last) 1), .int .u64 (word (x.last) 2), .int .u64 (word (x.last) 3), .bool x.none] := (((((((((Da.far (b' := w2.heap.size) (j := 0) (by omega) (.int .u64 (word (x2.first) 0))).far (b' := w2.heap.size) (j := 1) (by omega) (.int .u64 (word (x2.first) 1))).far (b' := w2.heap.size) (j := 2) (by omega) (.int .u64 (word (x2.first) 2))).far (b' := w2.heap.size) (j := 3) (by omega) (.int .u64 (word (x2.first) 3))).far (b' := w2.heap.size) (j := 4) (by omega) (.int .u64 (word (x2.last) 0))).far (b' := w2.heap.size) (j := 5) (by omega) (.int .u64 (word (x2.last) 1))).far (b' := w2.heap.size) (j := 6) (by omega) (.int .u64 (word (x2.last) 2))).far (b' := w2.heap.size) (j := 7) (by omega) (.int .u64 (word (x2.last) 3))).far (b' := w2.heap.size) (j := 8) (by omega) (.bool x2.none))
        have Do : At ((((((((((w3).setCell ⟨w2.heap.size, 0, none⟩ (.int .u64 (word (x2.first) 0))).setCell ⟨w2.heap.size, 1, none⟩ (.int .u64 (word (x2.first) 1))).setCell ⟨w2.heap.size, 2, none⟩ (.int .u64 (word (x2.first) 2))).setCell ⟨w2.heap.size, 3, none⟩ (.int .u64 (word (x2.first) 3))).setCell ⟨w2.heap.size, 4, none⟩ (.int .u64 (word (x2.last) 0))).setCell ⟨w2.heap.size, 5, none⟩ (.int .u64 (word (x2.last) 1))).setCell ⟨w2.heap.size, 6, none⟩ (.int .u64 (word (x2.last) 2))).setCell ⟨w2.heap.size, 7, none⟩ (.int .u64 (word (x2.last) 3))).setCell ⟨w2.heap.size, 8, none⟩ (.bool x2.none)) (w2.heap.size) [.int .u64 (word (x2.first) 0), .int .u64 (word (x2.first) 1), .int .u64 (word (x2.first) 2), .int .u64 (word (x2.first) 3), .int .u64 (word (x2.last) 0), .int .u64 (word (x2.last) 1), .int .u64 (word (x2.last) 2), .int .u64 (word (x2.last) 3), .bool x2.none] := (((((((((Do.set 0 (.int .u64 (word (x2.first) 0))).set 1 (.int .u64 (word (x2.first) 1))).set 2 (.int .u64 (word (x2.first) 2))).set 3 (.int .u64 (word (x2.first) 3))).set 4 (.int .u64 (word (x2.last) 0))).set 5 (.int .u64 (word (x2.last) 1))).set 6 (.int .u64 (word (x2.last) 2))).set 7 (.int .u64 (word (x2.last) 3))).set 8 (.bool x2.none))
        have R := (((((((((R.far (c := w2.heap.size) 0 (by omega) (by omega) (by omega) (.int .u64 (word (x2.first) 0))).far (c := w2.heap.size) 1 (by omega) (by omega) (by omega) (.int .u64 (word (x2.first) 1))).far (c := w2.heap.size) 2 (by omega) (by omega) (by omega) (.int .u64 (word (x2.first) 2))).far (c := w2.heap.size) 3 (by omega) (by omega) (by omega) (.int .u64 (word (x2.first) 3))).far (c := w2.heap.size) 4 (by omega) (by omega) (by omega) (.int .u64 (word (x2.last) 0))).far (c := w2.heap.size) 5 (by omega) (by omega) (by omega) (.int .u64 (word (x2.last) 1))).far (c := w2.heap.size) 6 (by omega) (by omega) (by omega) (.int .u64 (word (x2.last) 2))).far (c := w2.heap.size) 7 (by omega) (by omega) (by omega) (.int .u64 (word (x2.last) 3))).far (c := w2.heap.size) 8 (by omega) (by omega) (by omega) (.bool x2.none))
        have P := (((((((((P.setCell (p := ⟨w2.heap.size, 0, none⟩) (.inl (by dsimp only; omega)) (.int .u64 (word (x2.first) 0))).setCell (p := ⟨w2.heap.size, 1, none⟩) (.inl (by dsimp only; omega)) (.int .u64 (word (x2.first) 1))).setCell (p := ⟨w2.heap.size, 2, none⟩) (.inl (by dsimp only; omega)) (.int .u64 (word (x2.first) 2))).setCell (p := ⟨w2.heap.size, 3, none⟩) (.inl (by dsimp only; omega)) (.int .u64 (word (x2.first) 3))).setCell (p := ⟨w2.heap.size, 4, none⟩) (.inl (by dsimp only; omega)) (.int .u64 (word (x2.last) 0))).setCell (p := ⟨w2.heap.size, 5, none⟩) (.inl (by dsimp only; omega)) (.int .u64 (word (x2.last) 1))).setCell (p := ⟨w2.heap.size, 6, none⟩) (.inl (by dsimp only; omega)) (.int .u64 (word (x2.last) 2))).setCell (p := ⟨w2.heap.size, 7, none⟩) (.inl (by dsimp only; omega)) (.int .u64 (word (x2.last) 3))).setCell (p := ⟨w2.heap.size, 8, none⟩) (.inl (by dsimp only; omega)) (.bool x2.none))
        refine (either_w x x2 _).mono ?_
        rintro e w4 ⟨rfl, hb4⟩
        have Dr := Dr.below hb4
        have Da := Da.below hb4
        have Do := Do.below hb4
        have R := R.below hb4
        have P := P.below hb4
        clear hb4
        have ar0 := Dr.cell 0 _ rfl
        have zr0 := Dr.free 0 _ rfl
        have ar1 := Dr.cell 1 _ rfl
        have zr1 := Dr.free 1 _ rfl
        have ar2 := Dr.cell 2 _ rfl
        have zr2 := Dr.free 2 _ rfl
        have ar3 := Dr.cell 3 _ rfl
        have zr3 := Dr.free 3 _ rfl
        have ar4 := Dr.cell 4 _ rfl
        have zr4 := Dr.free 4 _ rfl
        have ar5 := Dr.cell 5 _ rfl
        have zr5 := Dr.free 5 _ rfl
        have ar6 := Dr.cell 6 _ rfl
        have zr6 := Dr.free 6 _ rfl
        have ar7 := Dr.cell 7 _ rfl
        have zr7 := Dr.free 7 _ rfl
        have ar8 := Dr.cell 8 _ rfl
        have zr8 := Dr.free 8 _ rfl
        have nr := Dr.lt
        have aa0 := Da.cell 0 _ rfl
        have za0 := Da.free 0 _ rfl
        have aa1 := Da.cell 1 _ rfl
        have za1 := Da.free 1 _ rfl
        have aa2 := Da.cell 2 _ rfl
        have za2 := Da.free 2 _ rfl
        have aa3 := Da.cell 3 _ rfl
        have za3 := Da.free 3 _ rfl
        have aa4 := Da.cell 4 _ rfl
        have za4 := Da.free 4 _ rfl
        have aa5 := Da.cell 5 _ rfl
        have za5 := Da.free 5 _ rfl
        have aa6 := Da.cell 6 _ rfl
        have za6 := Da.free 6 _ rfl
        have aa7 := Da.cell 7 _ rfl
        have za7 := Da.free 7 _ rfl
        have aa8 := Da.cell 8 _ rfl
        have za8 := Da.free 8 _ rfl
        have na := Da.lt
        have ao0 := Do.cell 0 _ rfl
        have zo0 := Do.free 0 _ rfl
        have ao1 := Do.cell 1 _ rfl
        have zo1 := Do.free 1 _ rfl
        have ao2 := Do.cell 2 _ rfl
        have zo2 := Do.free 2 _ rfl
        have ao3 := Do.cell 3 _ rfl
        have zo3 := Do.free 3 _ rfl
        have ao4 := Do.cell 4 _ rfl
        have zo4 := Do.free 4 _ rfl
        have ao5 := Do.cell 5 _ rfl
        have zo5 := Do.free 5 _ rfl
        have ao6 := Do.cell 6 _ rfl
        have zo6 := Do.free 6 _ rfl
        have ao7 := Do.cell 7 _ rfl
        have zo7 := Do.free 7 _ rfl
        have ao8 := Do.cell 8 _ rfl
        have zo8 := Do.free 8 _ rfl
        have no := Do.lt
        have aR0 := R.cells.cell 0 _ rfl
        have aR1 := R.cells.cell 1 _ rfl
        have aR2 := R.cells.cell 2 _ rfl
        have zR1 := R.cells.free 1 _ rfl
        have zR2 := R.cells.free 2 _ rfl
        have nR := R.lt.1
        have nG := R.lt.2.1
        have kR := R.kl
        clear ar0 zr0 ar1 zr1 ar2 zr2 ar3 zr3 ar4 zr4 ar5 zr5 ar6 zr6 ar7 zr7 ar8 zr8 nr aa0 za0 aa1 za1 aa2 za2 aa3 za3 aa4 za4 aa5 za5 aa6 za6 aa7 za7 aa8 za8 na ao0 zo0 ao1 zo1 ao2 zo2 ao3 zo3 ao4 zo4 ao5 zo5 ao6 zo6 ao7 zo7 ao8 zo8 no aR0 aR1 aR2 zR1 zR2 nR nG kR
        have ar0 := Dr.cell 0 _ rfl
        have zr0 := Dr.free 0 _ rfl
        have ar1 := Dr.cell 1 _ rfl
        have zr1 := Dr.free 1 _ rfl
        have ar2 := Dr.cell 2 _ rfl
        have zr2 := Dr.free 2 _ rfl
        have ar3 := Dr.cell 3 _ rfl
        have zr3 := Dr.free 3 _ rfl
        have ar4 := Dr.cell 4 _ rfl
        have zr4 := Dr.free 4 _ rfl
        have ar5 := Dr.cell 5 _ rfl
        have zr5 := Dr.free 5 _ rfl
        have ar6 := Dr.cell 6 _ rfl
        have zr6 := Dr.free 6 _ rfl
        have ar7 := Dr.cell 7 _ rfl
        have zr7 := Dr.free 7 _ rfl
        have ar8 := Dr.cell 8 _ rfl
        have zr8 := Dr.free 8 _ rfl
        have nr := Dr.lt
        have aa0 := Da.cell 0 _ rfl
        have za0 := Da.free 0 _ rfl
        have aa1 := Da.cell 1 _ rfl
        have za1 := Da.free 1 _ rfl
        have aa2 := Da.cell 2 _ rfl
        have za2 := Da.free 2 _ rfl
        have aa3 := Da.cell 3 _ rfl
        have za3 := Da.free 3 _ rfl
        have aa4 := Da.cell 4 _ rfl
        have za4 := Da.free 4 _ rfl
        have aa5 := Da.cell 5 _ rfl
        have za5 := Da.free 5 _ rfl
        have aa6 := Da.cell 6 _ rfl
        have za6 := Da.free 6 _ rfl
        have aa7 := Da.cell 7 _ rfl
        have za7 := Da.free 7 _ rfl
        have aa8 := Da.cell 8 _ rfl
        have za8 := Da.free 8 _ rfl
        have na := Da.lt
        have ao0 := Do.cell 0 _ rfl
        have zo0 := Do.free 0 _ rfl
        have ao1 := Do.cell 1 _ rfl
        have zo1 := Do.free 1 _ rfl
        have ao2 := Do.cell 2 _ rfl
        have zo2 := Do.free 2 _ rfl
        have ao3 := Do.cell 3 _ rfl
        have zo3 := Do.free 3 _ rfl
        have ao4 := Do.cell 4 _ rfl
        have zo4 := Do.free 4 _ rfl
        have ao5 := Do.cell 5 _ rfl
        have zo5 := Do.free 5 _ rfl
        have ao6 := Do.cell 6 _ rfl
        have zo6 := Do.free 6 _ rfl
        have ao7 := Do.cell 7 _ rfl
        have zo7 := Do.free 7 _ rfl
        have ao8 := Do.cell 8 _ rfl
        have zo8 := Do.free 8 _ rfl
        have no := Do.lt
        have aR0 := R.cells.cell 0 _ rfl
        have aR1 := R.cells.cell 1 _ rfl
        have aR2 := R.cells.cell 2 _ rfl
        have zR1 := R.cells.free 1 _ rfl
        have zR2 := R.cells.free 2 _ rfl
        have nR := R.lt.1
        have nG := R.lt.2.1
        have kR := R.kl
        go_wp2
        clear ar0 zr0 ar1 zr1 ar2 zr2 ar3 zr3 ar4 zr4 ar5 zr5 ar6 zr6 ar7 zr7 ar8 zr8 nr aa0 za0 aa1 za1 aa2 za2 aa3 za3 aa4 za4 aa5 za5 aa6 za6 aa7 za7 aa8 za8 na ao0 zo0 ao1 zo1 ao2 zo2 ao3 zo3 ao4 zo4 ao5 zo5 ao6 zo6 ao7 zo7 ao8 zo8 no aR0 aR1 aR2 zR1 zR2 nR nG kR
        have Dr : At ((((((((((w4).setCell ⟨ba, 0, none⟩ (.int .u64 (word ((altP x x2).first) 0))).setCell ⟨ba, 1, none⟩ (.int .u64 (word ((altP x x2).first) 1))).setCell ⟨ba, 2, none⟩ (.int .u64 (word ((altP x x2).first) 2))).setCell ⟨ba, 3, none⟩ (.int .u64 (word ((altP x x2).first) 3))).setCell ⟨ba, 4, none⟩ (.int .u64 (word ((altP x x2).last) 0))).setCell ⟨ba, 5, none⟩ (.int .u64 (word ((altP x x2).last) 1))).setCell ⟨ba, 6, none⟩ (.int .u64 (word ((altP x x2).last) 2))).setCell ⟨ba, 7, none⟩ (.int .u64 (word ((altP x x2).last) 3))).setCell ⟨ba, 8, none⟩ (.bool (altP x x2).none)) (w.heap.size) [.int .u64 0, .int .u64 0, .int .u64 0, .int .u64 0, .int .u64 0, .int .u64 0, .int .u64 0, .int .u64 0, .bool false] := (((((((((Dr.far (b' := ba) (j := 0) (by omega) (.int .u64 (word ((altP x x2).first) 0))).far (b' := ba) (j := 1) (by omega) (.int .u64 (word ((altP x x2).first) 1))).far (b' := ba) (j := 2) (by omega) (.int .u64 (word ((altP x x2).first) 2))).far (b' := ba) (j := 3) (by omega) (.int .u64 (word ((altP x x2).first) 3))).far (b' := ba) (j := 4) (by omega) (.int .u64 (word ((altP x x2).last) 0))).far (b' := ba) (j := 5) (by omega) (.int .u64 (word ((altP x x2).last) 1))).far (b' := ba) (j := 6) (by omega) (.int .u64 (word ((altP x x2).last) 2))).far (b' := ba) (j := 7) (by omega) (.int .u64 (word ((altP x x2).last) 3))).far (b' := ba) (j := 8) (by omega) (.bool (altP x x2).none))
        have Da : At ((((((((((w4).setCell ⟨ba, 0, none⟩ (.int .u64 (word ((altP x x2).first) 0))).setCell ⟨ba, 1, none⟩ (.int .u64 (word ((altP x x2).first) 1))).setCell ⟨ba, 2, none⟩ (.int .u64 (word ((altP x x2).first) 2))).setCell ⟨ba, 3, none⟩ (.int .u64 (word ((altP x x2).first) 3))).setCell ⟨ba, 4, none⟩ (.int .u64 (word ((altP x x2).last) 0))).setCell ⟨ba, 5, none⟩ (.int .u64 (word ((altP x x2).last) 1))).setCell ⟨ba, 6, none⟩ (.int .u64 (word ((altP x x2).last) 2))).setCell ⟨ba, 7, none⟩ (.int .u64 (word ((altP x x2).last) 3))).setCell ⟨ba, 8, none⟩ (.bool (altP x x2).none)) (ba) [.int .u64 (word ((altP x x2).first) 0), .int .u64 (word ((altP x x2).first) 1), .int .u64 (word ((altP x x2).first) 2), .int .u64 (word ((altP x x2).first) 3), .int .u64 (word ((altP x x2).last) 0), .int .u64 (word ((altP x x2).last) 1), .int .u64 (word ((altP x x2).last) 2), .int .u64 (word ((altP x x2).last) 3), .bool (altP x x2).none] := (((((((((Da.set 0 (.int .u64 (word ((altP x x2).first) 0))).set 1 (.int .u64 (word ((altP x x2).first) 1))).set 2 (.int .u64 (word ((altP x x2).first) 2))).set 3 (.int .u64 (word ((altP x x2).first) 3))).set 4 (.int .u64 (word ((altP x x2).last) 0))).set 5 (.int .u64 (word ((altP x x2).last) 1))).set 6 (.int .u64 (word ((altP x x2).last) 2))).set 7 (.int .u64 (word ((altP x x2).last) 3))).set 8 (.bool (altP x x2).none))
        have Do : At ((((((((((w4).setCell ⟨ba, 0, none⟩ (.int .u64 (word ((altP x x2).first) 0))).setCell ⟨ba, 1, none⟩ (.int .u64 (word ((altP x x2).first) 1))).setCell ⟨ba, 2, none⟩ (.int .u64 (word ((altP x x2).first) 2))).setCell ⟨ba, 3, none⟩ (.int .u64 (word ((altP x x2).first) 3))).setCell ⟨ba, 4, none⟩ (.int .u64 (word ((altP x x2).last) 0))).setCell ⟨ba, 5, none⟩ (.int .u64 (word ((altP x x2).last) 1))).setCell ⟨ba, 6, none⟩ (.int .u64 (word ((altP x x2).last) 2))).setCell ⟨ba, 7, none⟩ (.int .u64 (word ((altP x x2).last) 3))).setCell ⟨ba, 8, none⟩ (.bool (altP x x2).none)) (w2.heap.size) [.int .u64 (word (x2.first) 0), .int .u64 (word (x2.first) 1), .int .u64 (word (x2.first) 2), .int .u64 (word (x2.first) 3), .int .u64 (word (x2.last) 0), .int .u64 (word (x2.last) 1), .int .u64 (word (x2.last) 2), .int .u64 (word (x2.last) 3), .bool x2.none] := (((((((((Do.far (b' := ba) (j := 0) (by omega) (.int .u64 (word ((altP x x2).first) 0))).far (b' := ba) (j := 1) (by omega) (.int .u64 (word ((altP x x2).first) 1))).far (b' := ba) (j := 2) (by omega) (.int .u64 (word ((altP x x2).first) 2))).far (b' := ba) (j := 3) (by omega) (.int .u64 (word ((altP x x2).first) 3))).far (b' := ba) (j := 4) (by omega) (.int .u64 (word ((altP x x2).last) 0))).far (b' := ba) (j := 5) (by omega) (.int .u64 (word ((altP x x2).last) 1))).far (b' := ba) (j := 6) (by omega) (.int .u64 (word ((altP x x2).last) 2))).far (b' := ba) (j := 7) (by omega) (.int .u64 (word ((altP x x2).last) 3))).far (b' := ba) (j := 8) (by omega) (.bool (altP x x2).none))
        have R := (((((((((R.far (c := ba) 0 (by omega) (by omega) (by omega) (.int .u64 (word ((altP x x2).first) 0))).far (c := ba) 1 (by omega) (by omega) (by omega) (.int .u64 (word ((altP x x2).first) 1))).far (c := ba) 2 (by omega) (by omega) (by omega) (.int .u64 (word ((altP x x2).first) 2))).far (c := ba) 3 (by omega) (by omega) (by omega) (.int .u64 (word ((altP x x2).first) 3))).far (c := ba) 4 (by omega) (by omega) (by omega) (.int .u64 (word ((altP x x2).last) 0))).far (c := ba) 5 (by omega) (by omega) (by omega) (.int .u64 (word ((altP x x2).last) 1))).far (c := ba) 6 (by omega) (by omega) (by omega) (.int .u64 (word ((altP x x2).last) 2))).far (c := ba) 7 (by omega) (by omega) (by omega) (.int .u64 (word ((altP x x2).last) 3))).far (c := ba) 8 (by omega) (by omega) (by omega) (.bool (altP x x2).none))
        have P := (((((((((P.setCell (p := ⟨ba, 0, none⟩) (.inl (by dsimp only; omega)) (.int .u64 (word ((altP x x2).first) 0))).setCell (p := ⟨ba, 1, none⟩) (.inl (by dsimp only; omega)) (.int .u64 (word ((altP x x2).first) 1))).setCell (p := ⟨ba, 2, none⟩) (.inl (by dsimp only; omega)) (.int .u64 (word ((altP x x2).first) 2))).setCell (p := ⟨ba, 3, none⟩) (.inl (by dsimp only; omega)) (.int .u64 (word ((altP x x2).first) 3))).setCell (p := ⟨ba, 4, none⟩) (.inl (by dsimp only; omega)) (.int .u64 (word ((altP x x2).last) 0))).setCell (p := ⟨ba, 5, none⟩) (.inl (by dsimp only; omega)) (.int .u64 (word ((altP x x2).last) 1))).setCell (p := ⟨ba, 6, none⟩) (.inl (by dsimp only; omega)) (.int .u64 (word ((altP x x2).last) 2))).setCell (p := ⟨ba, 7, none⟩) (.inl (by dsimp only; omega)) (.int .u64 (word ((altP x x2).last) 3))).setCell (p := ⟨ba, 8, none⟩) (.inl (by dsimp only; omega)) (.bool (altP x x2).none))
        have hM2 := place_rd R
        have hz3 := Da.lt
        have hM1 := HM.out
        go_roundw
        case rel => exact ⟨altP x x2, er2, j2, _, _, n2, rfl, HST.out.1, by omega, by omega, hz3, Da, Dr, R, P⟩
        case measure =>
          have h := HST.out.2
          have hjl2 := R.kl
          simp only [hM1, hM2]
          omega
      · have hov := choice_over hT hf HX.out HN.out h124
        have HOV := Lib.hid hov
        have H124 := Lib.hid h124
        clear hov hT HX HN h124
        have ar0 := Dr.cell 0 _ rfl
        have zr0 := Dr.free 0 _ rfl
        have ar1 := Dr.cell 1 _ rfl
        have zr1 := Dr.free 1 _ rfl
        have ar2 := Dr.cell 2 _ rfl
        have zr2 := Dr.free 2 _ rfl
        have ar3 := Dr.cell 3 _ rfl
        have zr3 := Dr.free 3 _ rfl
        have ar4 := Dr.cell 4 _ rfl
        have zr4 := Dr.free 4 _ rfl
        have ar5 := Dr.cell 5 _ rfl
        have zr5 := Dr.free 5 _ rfl
        have ar6 := Dr.cell 6 _ rfl
        have zr6 := Dr.free 6 _ rfl
        have ar7 := Dr.cell 7 _ rfl
        have zr7 := Dr.free 7 _ rfl
        have ar8 := Dr.cell 8 _ rfl
        have zr8 := Dr.free 8 _ rfl
        have nr := Dr.lt
        have aa0 := Da.cell 0 _ rfl
        have za0 := Da.free 0 _ rfl
        have aa1 := Da.cell 1 _ rfl
        have za1 := Da.free 1 _ rfl
        have aa2 := Da.cell 2 _ rfl
        have za2 := Da.free 2 _ rfl
        have aa3 := Da.cell 3 _ rfl
        have za3 := Da.free 3 _ rfl
        have aa4 := Da.cell 4 _ rfl
        have za4 := Da.free 4 _ rfl
        have aa5 := Da.cell 5 _ rfl
        have za5 := Da.free 5 _ rfl
        have aa6 := Da.cell 6 _ rfl
        have za6 := Da.free 6 _ rfl
        have aa7 := Da.cell 7 _ rfl
        have za7 := Da.free 7 _ rfl
        have aa8 := Da.cell 8 _ rfl
        have za8 := Da.free 8 _ rfl
        have na := Da.lt
        have aR0 := R.cells.cell 0 _ rfl
        have aR1 := R.cells.cell 1 _ rfl
        have aR2 := R.cells.cell 2 _ rfl
        have zR1 := R.cells.free 1 _ rfl
        have zR2 := R.cells.free 2 _ rfl
        have nR := R.lt.1
        have nG := R.lt.2.1
        have kR := R.kl
        go_wp2_with fail
        clear ar0 zr0 ar1 zr1 ar2 zr2 ar3 zr3 ar4 zr4 ar5 zr5 ar6 zr6 ar7 zr7 ar8 zr8 nr aa0 za0 aa1 za1 aa2 za2 aa3 za3 aa4 za4 aa5 za5 aa6 za6 aa7 za7 aa8 za8 na aR0 aR1 aR2 zR1 zR2 nR nG kR
        refine (skip_no base b _ _ j s l _ _ R 124 H124.out).mono ?_
        rintro e w2 ⟨rfl, hb2⟩
        have Dr := Dr.below hb2
        have Da := Da.below hb2
        have R := R.below hb2
        have P := P.below hb2
        clear hb2
        have ar0 := Dr.cell 0 _ rfl
        have zr0 := Dr.free 0 _ rfl
        have ar1 := Dr.cell 1 _ rfl
        have zr1 := Dr.free 1 _ rfl
        have ar2 := Dr.cell 2 _ rfl
        have zr2 := Dr.free 2 _ rfl
        have ar3 := Dr.cell 3 _ rfl
        have zr3 := Dr.free 3 _ rfl
        have ar4 := Dr.cell 4 _ rfl
        have zr4 := Dr.free 4 _ rfl
        have ar5 := Dr.cell 5 _ rfl
        have zr5 := Dr.free 5 _ rfl
        have ar6 := Dr.cell 6 _ rfl
        have zr6 := Dr.free 6 _ rfl
        have ar7 := Dr.cell 7 _ rfl
        have zr7 := Dr.free 7 _ rfl
        have ar8 := Dr.cell 8 _ rfl
        have zr8 := Dr.free 8 _ rfl
        have nr := Dr.lt
        have aa0 := Da.cell 0 _ rfl
        have za0 := Da.free 0 _ rfl
        have aa1 := Da.cell 1 _ rfl
        have za1 := Da.free 1 _ rfl
        have aa2 := Da.cell 2 _ rfl
        have za2 := Da.free 2 _ rfl
        have aa3 := Da.cell 3 _ rfl
        have za3 := Da.free 3 _ rfl
        have aa4 := Da.cell 4 _ rfl
        have za4 := Da.free 4 _ rfl
        have aa5 := Da.cell 5 _ rfl
        have za5 := Da.free 5 _ rfl
        have aa6 := Da.cell 6 _ rfl
        have za6 := Da.free 6 _ rfl
        have aa7 := Da.cell 7 _ rfl
        have za7 := Da.free 7 _ rfl
        have aa8 := Da.cell 8 _ rfl
        have za8 := Da.free 8 _ rfl
        have na := Da.lt
        have aR0 := R.cells.cell 0 _ rfl
        have aR1 := R.cells.cell 1 _ rfl
        have aR2 := R.cells.cell 2 _ rfl
        have zR1 := R.cells.free 1 _ rfl
        have zR2 := R.cells.free 2 _ rfl
        have nR := R.lt.1
        have nG := R.lt.2.1
        have kR := R.kl
        clear ar0 zr0 ar1 zr1 ar2 zr2 ar3 zr3 ar4 zr4 ar5 zr5 ar6 zr6 ar7 zr7 ar8 zr8 nr aa0 za0 aa1 za1 aa2 za2 aa3 za3 aa4 za4 aa5 za5 aa6 za6 aa7 za7 aa8 za8 na aR0 aR1 aR2 zR1 zR2 nR nG kR
        have ar0 := Dr.cell 0 _ rfl
        have zr0 := Dr.free 0 _ rfl
        have ar1 := Dr.cell 1 _ rfl
        have zr1 := Dr.free 1 _ rfl
        have ar2 := Dr.cell 2 _ rfl
        have zr2 := Dr.free 2 _ rfl
        have ar3 := Dr.cell 3 _ rfl
        have zr3 := Dr.free 3 _ rfl
        have ar4 := Dr.cell 4 _ rfl
        have zr4 := Dr.free 4 _ rfl
        have ar5 := Dr.cell 5 _ rfl
        have zr5 := Dr.free 5 _ rfl
        have ar6 := Dr.cell 6 _ rfl
        have zr6 := Dr.free 6 _ rfl
        have ar7 := Dr.cell 7 _ rfl
        have zr7 := Dr.free 7 _ rfl
        have ar8 := Dr.cell 8 _ rfl
        have zr8 := Dr.free 8 _ rfl
        have nr := Dr.lt
        have aa0 := Da.cell 0 _ rfl
        have za0 := Da.free 0 _ rfl
        have aa1 := Da.cell 1 _ rfl
        have za1 := Da.free 1 _ rfl
        have aa2 := Da.cell 2 _ rfl
        have za2 := Da.free 2 _ rfl
        have aa3 := Da.cell 3 _ rfl
        have za3 := Da.free 3 _ rfl
        have aa4 := Da.cell 4 _ rfl
        have za4 := Da.free 4 _ rfl
        have aa5 := Da.cell 5 _ rfl
        have za5 := Da.free 5 _ rfl
        have aa6 := Da.cell 6 _ rfl
        have za6 := Da.free 6 _ rfl
        have aa7 := Da.cell 7 _ rfl
        have za7 := Da.free 7 _ rfl
        have aa8 := Da.cell 8 _ rfl
        have za8 := Da.free 8 _ rfl
        have na := Da.lt
        have aR0 := R.cells.cell 0 _ rfl
        have aR1 := R.cells.cell 1 _ rfl
        have aR2 := R.cells.cell 2 _ rfl
        have zR1 := R.cells.free 1 _ rfl
        have zR2 := R.cells.free 2 _ rfl
        have nR := R.lt.1
        have nG := R.lt.2.1
        have kR := R.kl
        go_wp2
        clear ar0 zr0 ar1 zr1 ar2 zr2 ar3 zr3 ar4 zr4 ar5 zr5 ar6 zr6 ar7 zr7 ar8 zr8 nr aa0 za0 aa1 za1 aa2 za2 aa3 za3 aa4 za4 aa5 za5 aa6 za6 aa7 za7 aa8 za8 na aR0 aR1 aR2 zR1 zR2 nR nG kR
        have Dr : At ((((((((((w2).setCell ⟨w.heap.size, 0, none⟩ (.int .u64 (word (x.first) 0))).setCell ⟨w.heap.size, 1, none⟩ (.int .u64 (word (x.first) 1))).setCell ⟨w.heap.size, 2, none⟩ (.int .u64 (word (x.first) 2))).setCell ⟨w.heap.size, 3, none⟩ (.int .u64 (word (x.first) 3))).setCell ⟨w.heap.size, 4, none⟩ (.int .u64 (word (x.last) 0))).setCell ⟨w.heap.size, 5, none⟩ (.int .u64 (word (x.last) 1))).setCell ⟨w.heap.size, 6, none⟩ (.int .u64 (word (x.last) 2))).setCell ⟨w.heap.size, 7, none⟩ (.int .u64 (word (x.last) 3))).setCell ⟨w.heap.size, 8, none⟩ (.bool x.none)) (w.heap.size) [.int .u64 (word (x.first) 0), .int .u64 (word (x.first) 1), .int .u64 (word (x.first) 2), .int .u64 (word (x.first) 3), .int .u64 (word (x.last) 0), .int .u64 (word (x.last) 1), .int .u64 (word (x.last) 2), .int .u64 (word (x.last) 3), .bool x.none] := (((((((((Dr.set 0 (.int .u64 (word (x.first) 0))).set 1 (.int .u64 (word (x.first) 1))).set 2 (.int .u64 (word (x.first) 2))).set 3 (.int .u64 (word (x.first) 3))).set 4 (.int .u64 (word (x.last) 0))).set 5 (.int .u64 (word (x.last) 1))).set 6 (.int .u64 (word (x.last) 2))).set 7 (.int .u64 (word (x.last) 3))).set 8 (.bool x.none))
        have Da : At ((((((((((w2).setCell ⟨w.heap.size, 0, none⟩ (.int .u64 (word (x.first) 0))).setCell ⟨w.heap.size, 1, none⟩ (.int .u64 (word (x.first) 1))).setCell ⟨w.heap.size, 2, none⟩ (.int .u64 (word (x.first) 2))).setCell ⟨w.heap.size, 3, none⟩ (.int .u64 (word (x.first) 3))).setCell ⟨w.heap.size, 4, none⟩ (.int .u64 (word (x.last) 0))).setCell ⟨w.heap.size, 5, none⟩ (.int .u64 (word (x.last) 1))).setCell ⟨w.heap.size, 6, none⟩ (.int .u64 (word (x.last) 2))).setCell ⟨w.heap.size, 7, none⟩ (.int .u64 (word (x.last) 3))).setCell ⟨w.heap.size, 8, none⟩ (.bool x.none)) (ba) [.int .u64 (word (x.first) 0), .int .u64 (word (x.first) 1), .int .u64 (word (x.first) 2), .int .u64 (word (x.first) 3), .int .u64 (word (x.last) 0), .int .u64 (word (x.last) 1), .int .u64 (word (x.last) 2), .int .u64 (word (x.last) 3), .bool x.none] := (((((((((Da.far (b' := w.heap.size) (j := 0) (by omega) (.int .u64 (word (x.first) 0))).far (b' := w.heap.size) (j := 1) (by omega) (.int .u64 (word (x.first) 1))).far (b' := w.heap.size) (j := 2) (by omega) (.int .u64 (word (x.first) 2))).far (b' := w.heap.size) (j := 3) (by omega) (.int .u64 (word (x.first) 3))).far (b' := w.heap.size) (j := 4) (by omega) (.int .u64 (word (x.last) 0))).far (b' := w.heap.size) (j := 5) (by omega) (.int .u64 (word (x.last) 1))).far (b' := w.heap.size) (j := 6) (by omega) (.int .u64 (word (x.last) 2))).far (b' := w.heap.size) (j := 7) (by omega) (.int .u64 (word (x.last) 3))).far (b' := w.heap.size) (j := 8) (by omega) (.bool x.none))
        have R := (((((((((R.far (c := w.heap.size) 0 (by omega) (by omega) (by omega) (.int .u64 (word (x.first) 0))).far (c := w.heap.size) 1 (by omega) (by omega) (by omega) (.int .u64 (word (x.first) 1))).far (c := w.heap.size) 2 (by omega) (by omega) (by omega) (.int .u64 (word (x.first) 2))).far (c := w.heap.size) 3 (by omega) (by omega) (by omega) (.int .u64 (word (x.first) 3))).far (c := w.heap.size) 4 (by omega) (by omega) (by omega) (.int .u64 (word (x.last) 0))).far (c := w.heap.size) 5 (by omega) (by omega) (by omega) (.int .u64 (word (x.last) 1))).far (c := w.heap.size) 6 (by omega) (by omega) (by omega) (.int .u64 (word (x.last) 2))).far (c := w.heap.size) 7 (by omega) (by omega) (by omega) (.int .u64 (word (x.last) 3))).far (c := w.heap.size) 8 (by omega) (by omega) (by omega) (.bool x.none))
        have P := (((((((((P.setCell (p := ⟨w.heap.size, 0, none⟩) (.inl (by dsimp only; omega)) (.int .u64 (word (x.first) 0))).setCell (p := ⟨w.heap.size, 1, none⟩) (.inl (by dsimp only; omega)) (.int .u64 (word (x.first) 1))).setCell (p := ⟨w.heap.size, 2, none⟩) (.inl (by dsimp only; omega)) (.int .u64 (word (x.first) 2))).setCell (p := ⟨w.heap.size, 3, none⟩) (.inl (by dsimp only; omega)) (.int .u64 (word (x.first) 3))).setCell (p := ⟨w.heap.size, 4, none⟩) (.inl (by dsimp only; omega)) (.int .u64 (word (x.last) 0))).setCell (p := ⟨w.heap.size, 5, none⟩) (.inl (by dsimp only; omega)) (.int .u64 (word (x.last) 1))).setCell (p := ⟨w.heap.size, 6, none⟩) (.inl (by dsimp only; omega)) (.int .u64 (word (x.last) 2))).setCell (p := ⟨w.heap.size, 7, none⟩) (.inl (by dsimp only; omega)) (.int .u64 (word (x.last) 3))).setCell (p := ⟨w.heap.size, 8, none⟩) (.inl (by dsimp only; omega)) (.bool x.none))
        have ar0 := Dr.cell 0 _ rfl
        have zr0 := Dr.free 0 _ rfl
        have ar1 := Dr.cell 1 _ rfl
        have zr1 := Dr.free 1 _ rfl
        have ar2 := Dr.cell 2 _ rfl
        have zr2 := Dr.free 2 _ rfl
        have ar3 := Dr.cell 3 _ rfl
        have zr3 := Dr.free 3 _ rfl
        have ar4 := Dr.cell 4 _ rfl
        have zr4 := Dr.free 4 _ rfl
        have ar5 := Dr.cell 5 _ rfl
        have zr5 := Dr.free 5 _ rfl
        have ar6 := Dr.cell 6 _ rfl
        have zr6 := Dr.free 6 _ rfl
        have ar7 := Dr.cell 7 _ rfl
        have zr7 := Dr.free 7 _ rfl
        have ar8 := Dr.cell 8 _ rfl
        have zr8 := Dr.free 8 _ rfl
        have nr := Dr.lt
        have aa0 := Da.cell 0 _ rfl
        have za0 := Da.free 0 _ rfl
        have aa1 := Da.cell 1 _ rfl
        have za1 := Da.free 1 _ rfl
        have aa2 := Da.cell 2 _ rfl
        have za2 := Da.free 2 _ rfl
        have aa3 := Da.cell 3 _ rfl
        have za3 := Da.free 3 _ rfl
        have aa4 := Da.cell 4 _ rfl
        have za4 := Da.free 4 _ rfl
        have aa5 := Da.cell 5 _ rfl
        have za5 := Da.free 5 _ rfl
        have aa6 := Da.cell 6 _ rfl
        have za6 := Da.free 6 _ rfl
        have aa7 := Da.cell 7 _ rfl
        have za7 := Da.free 7 _ rfl
        have aa8 := Da.cell 8 _ rfl
        have za8 := Da.free 8 _ rfl
        have na := Da.lt
        have aR0 := R.cells.cell 0 _ rfl
        have aR1 := R.cells.cell 1 _ rfl
        have aR2 := R.cells.cell 2 _ rfl
        have zR1 := R.cells.free 1 _ rfl
        have zR2 := R.cells.free 2 _ rfl
        have nR := R.lt.1
        have nG := R.lt.2.1
        have kR := R.kl
        refine bodyPost_ret (v := .tuple #[.agg #[.int .u64 (word (x.first) 0), .int .u64 (word (x.first) 1), .int .u64 (word (x.first) 2), .int .u64 (word (x.first) 3), .int .u64 (word (x.last) 0), .int .u64 (word (x.last) 1), .int .u64 (word (x.last) 2), .int .u64 (word (x.last) 3), .bool x.none], .int .i64 0]) (by simp [results, Tryd.results28, go_sem, ar0, zr0, ar1, zr1, ar2, zr2, ar3, zr3, ar4, zr4, ar5, zr5, ar6, zr6, ar7, zr7, ar8, zr8, nr]; try rfl) rfl ?_
        exact ⟨x, 0, _, _, n1, j, rfl, HOV.out, R, P⟩
    · have hne : ((er : Int) == 0) = false := by rw [beq_eq_false_iff_ne]; omega
      have hov : PSt n T x (er : Int) j n1 := by rw [hT]; exact ⟨rfl, rfl, hlen⟩
      have HOV := Lib.hid hov
      clear hov hT
      have ar0 := Dr.cell 0 _ rfl
      have zr0 := Dr.free 0 _ rfl
      have ar1 := Dr.cell 1 _ rfl
      have zr1 := Dr.free 1 _ rfl
      have ar2 := Dr.cell 2 _ rfl
      have zr2 := Dr.free 2 _ rfl
      have ar3 := Dr.cell 3 _ rfl
      have zr3 := Dr.free 3 _ rfl
      have ar4 := Dr.cell 4 _ rfl
      have zr4 := Dr.free 4 _ rfl
      have ar5 := Dr.cell 5 _ rfl
      have zr5 := Dr.free 5 _ rfl
      have ar6 := Dr.cell 6 _ rfl
      have zr6 := Dr.free 6 _ rfl
      have ar7 := Dr.cell 7 _ rfl
      have zr7 := Dr.free 7 _ rfl
      have ar8 := Dr.cell 8 _ rfl
      have zr8 := Dr.free 8 _ rfl
      have nr := Dr.lt
      have aa0 := Da.cell 0 _ rfl
      have za0 := Da.free 0 _ rfl
      have aa1 := Da.cell 1 _ rfl
      have za1 := Da.free 1 _ rfl
      have aa2 := Da.cell 2 _ rfl
      have za2 := Da.free 2 _ rfl
      have aa3 := Da.cell 3 _ rfl
      have za3 := Da.free 3 _ rfl
      have aa4 := Da.cell 4 _ rfl
      have za4 := Da.free 4 _ rfl
      have aa5 := Da.cell 5 _ rfl
      have za5 := Da.free 5 _ rfl
      have aa6 := Da.cell 6 _ rfl
      have za6 := Da.free 6 _ rfl
      have aa7 := Da.cell 7 _ rfl
      have za7 := Da.free 7 _ rfl
      have aa8 := Da.cell 8 _ rfl
      have za8 := Da.free 8 _ rfl
      have na := Da.lt
      have aR0 := R.cells.cell 0 _ rfl
      have aR1 := R.cells.cell 1 _ rfl
      have aR2 := R.cells.cell 2 _ rfl
      have zR1 := R.cells.free 1 _ rfl
      have zR2 := R.cells.free 2 _ rfl
      have nR := R.lt.1
      have nG := R.lt.2.1
      have kR := R.kl
      go_wp2
      clear ar0 zr0 ar1 zr1 ar2 zr2 ar3 zr3 ar4 zr4 ar5 zr5 ar6 zr6 ar7 zr7 ar8 zr8 nr aa0 za0 aa1 za1 aa2 za2 aa3 za3 aa4 za4 aa5 za5 aa6 za6 aa7 za7 aa8 za8 na aR0 aR1 aR2 zR1 zR2 nR nG kR
      have Dr : At ((((((((((wr).setCell ⟨w.heap.size, 0, none⟩ (.int .u64 (word (x.first) 0))).setCell ⟨w.heap.size, 1, none⟩ (.int .u64 (word (x.first) 1))).setCell ⟨w.heap.size, 2, none⟩ (.int .u64 (word (x.first) 2))).setCell ⟨w.heap.size, 3, none⟩ (.int .u64 (word (x.first) 3))).setCell ⟨w.heap.size, 4, none⟩ (.int .u64 (word (x.last) 0))).setCell ⟨w.heap.size, 5, none⟩ (.int .u64 (word (x.last) 1))).setCell ⟨w.heap.size, 6, none⟩ (.int .u64 (word (x.last) 2))).setCell ⟨w.heap.size, 7, none⟩ (.int .u64 (word (x.last) 3))).setCell ⟨w.heap.size, 8, none⟩ (.bool x.none)) (w.heap.size) [.int .u64 (word (x.first) 0), .int .u64 (word (x.first) 1), .int .u64 (word (x.first) 2), .int .u64 (word (x.first) 3), .int .u64 (word (x.last) 0), .int .u64 (word (x.last) 1), .int .u64 (word (x.last) 2), .int .u64 (word (x.last) 3), .bool x.none] := (((((((((Dr.set 0 (.int .u64 (word (x.first) 0))).set 1 (.int .u64 (word (x.first) 1))).set 2 (.int .u64 (word (x.first) 2))).set 3 (.int .u64 (word (x.first) 3))).set 4 (.int .u64 (word (x.last) 0))).set 5 (.int .u64 (word (x.last) 1))).set 6 (.int .u64 (word (x.last) 2))).set 7 (.int .u64 (word (x.last) 3))).set 8 (.bool x.none))
      have Da : At ((((((((((wr).setCell ⟨w.heap.size, 0, none⟩ (.int .u64 (word (x.first) 0))).setCell ⟨w.heap.size, 1, none⟩ (.int .u64 (word (x.first) 1))).setCell ⟨w.heap.size, 2, none⟩ (.int .u64 (word (x.first) 2))).setCell ⟨w.heap.size, 3, none⟩ (.int .u64 (word (x.first) 3))).setCell ⟨w.heap.size, 4, none⟩ (.int .u64 (word (x.last) 0))).setCell ⟨w.heap.size, 5, none⟩ (.int .u64 (word (x.last) 1))).setCell ⟨w.heap.size, 6, none⟩ (.int .u64 (word (x.last) 2))).setCell ⟨w.heap.size, 7, none⟩ (.int .u64 (word (x.last) 3))).setCell ⟨w.heap.size, 8, none⟩ (.bool x.none)) (ba) [.int .u64 (word (x.first) 0), .int .u64 (word (x.first) 1), .int .u64 (word (x.first) 2), .int .u64 (word (x.first) 3), .int .u64 (word (x.last) 0), .int .u64 (word (x.last) 1), .int .u64 (word (x.last) 2), .int .u64 (word (x.last) 3), .bool x.none] := (((((((((Da.far (b' := w.heap.size) (j := 0) (by omega) (.int .u64 (word (x.first) 0))).far (b' := w.heap.size) (j := 1) (by omega) (.int .u64 (word (x.first) 1))).far (b' := w.heap.size) (j := 2) (by omega) (.int .u64 (word (x.first) 2))).far (b' := w.heap.size) (j := 3) (by omega) (.int .u64 (word (x.first) 3))).far (b' := w.heap.size) (j := 4) (by omega) (.int .u64 (word (x.last) 0))).far (b' := w.heap.size) (j := 5) (by omega) (.int .u64 (word (x.last) 1))).far (b' := w.heap.size) (j := 6) (by omega) (.int .u64 (word (x.last) 2))).far (b' := w.heap.size) (j := 7) (by omega) (.int .u64 (word (x.last) 3))).far (b' := w.heap.size) (j := 8) (by omega) (.bool x.none))
      have R := (((((((((R.far (c := w.heap.size) 0 (by omega) (by omega) (by omega) (.int .u64 (word (x.first) 0))).far (c := w.heap.size) 1 (by omega) (by omega) (by omega) (.int .u64 (word (x.first) 1))).far (c := w.heap.size) 2 (by omega) (by omega) (by omega) (.int .u64 (word (x.first) 2))).far (c := w.heap.size) 3 (by omega) (by omega) (by omega) (.int .u64 (word (x.first) 3))).far (c := w.heap.size) 4 (by omega) (by omega) (by omega) (.int .u64 (word (x.last) 0))).far (c := w.heap.size) 5 (by omega) (by omega) (by omega) (.int .u64 (word (x.last) 1))).far (c := w.heap.size) 6 (by omega) (by omega) (by omega) (.int .u64 (word (x.last) 2))).far (c := w.heap.size) 7 (by omega) (by omega) (by omega) (.int .u64 (word (x.last) 3))).far (c := w.heap.size) 8 (by omega) (by omega) (by omega) (.bool x.none))
      have P := (((((((((P.setCell (p := ⟨w.heap.size, 0, none⟩) (.inl (by dsimp only; omega)) (.int .u64 (word (x.first) 0))).setCell (p := ⟨w.heap.size, 1, none⟩) (.inl (by dsimp only; omega)) (.int .u64 (word (x.first) 1))).setCell (p := ⟨w.heap.size, 2, none⟩) (.inl (by dsimp only; omega)) (.int .u64 (word (x.first) 2))).setCell (p := ⟨w.heap.size, 3, none⟩) (.inl (by dsimp only; omega)) (.int .u64 (word (x.first) 3))).setCell (p := ⟨w.heap.size, 4, none⟩) (.inl (by dsimp only; omega)) (.int .u64 (word (x.last) 0))).setCell (p := ⟨w.heap.size, 5, none⟩) (.inl (by dsimp only; omega)) (.int .u64 (word (x.last) 1))).setCell (p := ⟨w.heap.size, 6, none⟩) (.inl (by dsimp only; omega)) (.int .u64 (word (x.last) 2))).setCell (p := ⟨w.heap.size, 7, none⟩) (.inl (by dsimp only; omega)) (.int .u64 (word (x.last) 3))).setCell (p := ⟨w.heap.size, 8, none⟩) (.inl (by dsimp only; omega)) (.bool x.none))
      have ar0 := Dr.cell 0 _ rfl
      have zr0 := Dr.free 0 _ rfl
      have ar1 := Dr.cell 1 _ rfl
      have zr1 := Dr.free 1 _ rfl
      have ar2 := Dr.cell 2 _ rfl
      have zr2 := Dr.free 2 _ rfl
      have ar3 := Dr.cell 3 _ rfl
      have zr3 := Dr.free 3 _ rfl
      have ar4 := Dr.cell 4 _ rfl
      have zr4 := Dr.free 4 _ rfl
      have ar5 := Dr.cell 5 _ rfl
      have zr5 := Dr.free 5 _ rfl
      have ar6 := Dr.cell 6 _ rfl
      have zr6 := Dr.free 6 _ rfl
      have ar7 := Dr.cell 7 _ rfl
      have zr7 := Dr.free 7 _ rfl
      have ar8 := Dr.cell 8 _ rfl
      have zr8 := Dr.free 8 _ rfl
      have nr := Dr.lt
      have aa0 := Da.cell 0 _ rfl
      have za0 := Da.free 0 _ rfl
      have aa1 := Da.cell 1 _ rfl
      have za1 := Da.free 1 _ rfl
      have aa2 := Da.cell 2 _ rfl
      have za2 := Da.free 2 _ rfl
      have aa3 := Da.cell 3 _ rfl
      have za3 := Da.free 3 _ rfl
      have aa4 := Da.cell 4 _ rfl
      have za4 := Da.free 4 _ rfl
      have aa5 := Da.cell 5 _ rfl
      have za5 := Da.free 5 _ rfl
      have aa6 := Da.cell 6 _ rfl
      have za6 := Da.free 6 _ rfl
      have aa7 := Da.cell 7 _ rfl
      have za7 := Da.free 7 _ rfl
      have aa8 := Da.cell 8 _ rfl
      have za8 := Da.free 8 _ rfl
      have na := Da.lt
      have aR0 := R.cells.cell 0 _ rfl
      have aR1 := R.cells.cell 1 _ rfl
      have aR2 := R.cells.cell 2 _ rfl
      have zR1 := R.cells.free 1 _ rfl
      have zR2 := R.cells.free 2 _ rfl
      have nR := R.lt.1
      have nG := R.lt.2.1
      have kR := R.kl
      refine bodyPost_ret (v := .tuple #[.agg #[.int .u64 (word (x.first) 0), .int .u64 (word (x.first) 1), .int .u64 (word (x.first) 2), .int .u64 (word (x.first) 3), .int .u64 (word (x.last) 0), .int .u64 (word (x.last) 1), .int .u64 (word (x.last) 2), .int .u64 (word (x.last) 3), .bool x.none], .int .i64 (er : Int)]) (by simp [results, Tryd.results28, go_sem, ar0, zr0, ar1, zr1, ar2, zr2, ar3, zr3, ar4, zr4, ar5, zr5, ar6, zr6, ar7, zr7, ar8, zr8, nr]; try rfl) rfl ?_
      exact ⟨x, (er : Int), _, _, n1, j, rfl, HOV.out, R, P⟩
end Go.Proofs.YtcfdpbbpdnpnnaaDoor
