/- regex's reader: row. -/
import Derived.Test.YtcfdpbbpdnpnnaaDoorPart
namespace Go.Proofs.YtcfdpbbpdnpnnaaDoor
open Go Go.Proofs Go.RowKit Go.Shelf
set_option maxRecDepth 100000
attribute [local go_sem] cell_set
def RowOK (base b : Nat) (s : ByteArray) (l : List UInt8) (deep : Int) (at_ : Nat → Rx.Res Rx.Pt) : Prop :=
 ∀ (g cap k : Nat) (n : Rx.Nt) (w : World), Rd base b g cap s l k n w → n.length ≤ k + 1 → Calls Tryd.prog 37 #[.pointer (some ⟨b, 0, none⟩), .int .i64 deep] w (PU base b g w s l n (at_ k))
/-- between two parts -/
def RowSt (inner : Nat → Rx.Res Rx.Pt) (l : List UInt8) (T : Rx.Res Rx.Pt) (n : Rx.Nt) (x : Rx.Pce) (er : Int) (j : Nat) (n1 : Rx.Nt) : Prop :=
 (er = 0 ∧ n1.length ≤ j + 1 ∧ ∃ f acc, T = Rx.rowL inner l f j acc ∧ l.length - j < f ∧ x = (Rx.build acc n).1 ∧ n1 = (Rx.build acc n).2) ∨ (∃ e : Nat, er = (e : Int) ∧ (e = 2 ∨ e = 4) ∧ T = .bad e j ∧ n.length ≤ n1.length)
theorem build_eps (p : Rx.Pt) (n : Rx.Nt) : Rx.build (.seq .eps p) n = Rx.build p n := by
 have j0 : ∀ (x : Nat) (m : Rx.Nt), Rx.joinN 0 x m = m := by
  intro x m
  unfold Rx.joinN
  apply List.ext_getElem?
  intro i
  rw [List.getElem?_mapIdx]
  simp
 simp only [Rx.build, j0, Nat.zero_or, if_true, Nat.or_zero, ite_self, Bool.true_and]
theorem row_start {inner : Nat → Rx.Res Rx.Pt} {l : List UInt8} (hi : ∀ k, Rx.pk l k = 40 → Rx.Goes l k (inner k) (Rx.Few k)) {n n1 : Rx.Nt} {x : Rx.Pce} {er : Int} {k j : Nat} (hk : k ≤ l.length) (hn : n.length ≤ k + 1) (h : PSt n (Rx.partF inner l k) x er j n1) : RowSt inner l (Rx.rowF inner l k) n x er j n1 := by
 have g := Rx.part_goes hi hk
 unfold Rx.rowF
 cases hr : Rx.partF inner l k with
 | ok p i =>
  rw [hr] at h g
  obtain ⟨h1, h2, h3, h4⟩ := h
  obtain ⟨g1, g2, g3⟩ := g
  subst h3
  unfold Rx.Few at g3
  refine .inl ⟨h2, ?_, l.length + 1, .seq .eps p, rfl, by omega, by rw [build_eps]; exact h1, by rw [build_eps]; exact h4⟩
  rw [h4, Rx.build_length]; omega
 | bad e i =>
  rw [hr] at h g
  obtain ⟨h1, h2, h3⟩ := h
  subst h2
  exact .inr ⟨e, h1, g.2.2, rfl, h3⟩
theorem row_step {inner : Nat → Rx.Res Rx.Pt} {l : List UInt8} (hi : ∀ k, Rx.pk l k = 40 → Rx.Goes l k (inner k) (Rx.Few k)) {T : Rx.Res Rx.Pt} {n n1 n2 : Rx.Nt} {x x2 : Rx.Pce} {er2 : Int} {f j j2 : Nat} {acc : Rx.Pt} (hj : j ≤ l.length) (hn1 : n1.length ≤ j + 1) (hT : T = Rx.rowL inner l f j acc) (hf : l.length - j < f) (hx : x = (Rx.build acc n).1) (hn : n1 = (Rx.build acc n).2) (he : Rx.rowEnd l j = false) (h : PSt n1 (Rx.partF inner l j) x2 er2 j2 n2) :
  RowSt inner l T n (seqP x x2) er2 j2 (Rx.joinN x.last x2.first n2) ∧ (∀ i, i < 256 → x.last.testBit i = true → i < n2.length) ∧ ((er2 = 0 ∧ j < j2) ∨ (er2 ≠ 0 ∧ j ≤ j2)) := by
 obtain ⟨f, rfl⟩ : ∃ f', f = f' + 1 := ⟨f - 1, by omega⟩
 have g := Rx.part_goes hi hj
 have gl := last_lt acc n hx hn
 have nl : n.length ≤ n1.length := by rw [hn, Rx.build_length]; omega
 unfold Rx.rowL at hT
 rw [if_neg (by rw [he]; simp)] at hT
 cases hr : Rx.partF inner l j with
 | ok p i =>
  rw [hr] at h g hT
  obtain ⟨h1, h2, h3, h4⟩ := h
  obtain ⟨g1, g2, g3⟩ := g
  subst h3
  unfold Rx.Few at g3
  have hl2 : n2.length = n1.length + Rx.leaves p := by rw [h4, Rx.build_length]
  refine ⟨.inl ⟨h2, by rw [Rx.joinN_length]; omega, f, .seq acc p, hT, by omega, ?_, ?_⟩, fun i h0 h5 => by have := gl i h0 h5; omega, .inl ⟨h2, g1⟩⟩
  ·
   rw [hx, h1, hn]; rfl
  ·
   rw [hx, h1, h4, hn]; rfl
 | bad e i =>
  rw [hr] at h g hT
  obtain ⟨h1, h2, h3⟩ := h
  subst h2
  refine ⟨.inr ⟨e, h1, g.2.2, hT, by rw [Rx.joinN_length]; omega⟩, fun i h0 h5 => by have := gl i h0 h5; omega, .inr ⟨?_, g.1⟩⟩
  rcases g.2.2 with e1 | e1 <;> rw [h1, e1] <;> decide
theorem row_over {inner : Nat → Rx.Res Rx.Pt} {l : List UInt8} {T : Rx.Res Rx.Pt} {n n1 : Rx.Nt} {x : Rx.Pce} {f j : Nat} {acc : Rx.Pt} (hT : T = Rx.rowL inner l f j acc) (hf : l.length - j < f) (hx : x = (Rx.build acc n).1) (hn : n1 = (Rx.build acc n).2) (he : Rx.rowEnd l j = true) : PSt n T x 0 j n1 := by
 obtain ⟨f, rfl⟩ : ∃ f', f = f' + 1 := ⟨f - 1, by omega⟩
 unfold Rx.rowL at hT
 rw [if_pos he] at hT
 subst hT
 exact ⟨hx, rfl, rfl, hn⟩
theorem chain_w (base g cap : Nat) (n : Rx.Nt) (x y : Rx.Pce) (hl : ∀ i, i < 256 → x.last.testBit i = true → i < n.length) (hn : 0 < n.length) (w : World) (N : NetR base w (rowV g n.length cap) n) :
  Calls Tryd.prog 31 #[rowV g n.length cap, .agg #[.int .u64 (word (x.first) 0), .int .u64 (word (x.first) 1), .int .u64 (word (x.first) 2), .int .u64 (word (x.first) 3), .int .u64 (word (x.last) 0), .int .u64 (word (x.last) 1), .int .u64 (word (x.last) 2), .int .u64 (word (x.last) 3), .bool x.none], .agg #[.int .u64 (word (y.first) 0), .int .u64 (word (y.first) 1), .int .u64 (word (y.first) 2), .int .u64 (word (y.first) 3), .int .u64 (word (y.last) 0), .int .u64 (word (y.last) 1), .int .u64 (word (y.last) 2), .int .u64 (word (y.last) 3), .bool y.none]] w fun e w' => e = .returned (.agg #[.int .u64 (word ((seqP x y).first) 0), .int .u64 (word ((seqP x y).first) 1), .int .u64 (word ((seqP x y).first) 2), .int .u64 (word ((seqP x y).first) 3), .int .u64 (word ((seqP x y).last) 0), .int .u64 (word ((seqP x y).last) 1), .int .u64 (word ((seqP x y).last) 2), .int .u64 (word ((seqP x y).last) 3), .bool (seqP x y).none]) ∧ NetR base w' (rowV g n.length cap) (Rx.joinN x.last y.first n) ∧ w.grownBy w' (some g) := chain_any base g cap n x y hl hn w N
set_option maxHeartbeats 8000000 in
theorem row_any (base b : Nat) (s : ByteArray) (l : List UInt8) (deep : Int) (inner : Nat → Rx.Res Rx.Pt) (hi : ∀ k, Rx.pk l k = 40 → Rx.Goes l k (inner k) (Rx.Few k)) (HA : PartOK base b s l deep (Rx.partF inner l)) : RowOK base b s l deep (Rx.rowF inner l) := by
 intro g cap k n w R hn
 have P := Kp.refl b g w
 have hl64 := R.ll
 have hkl := R.kl
 obtain ⟨hbs, hgs, hts⟩ := R.lt
 have hb1 := R.b1
 have hsz : s.size = l.length := by rw [Lib.size_eq, R.txt]
 have HSZ := Lib.hid hsz
 have hst0 := fun x er j n1 h => row_start hi (n := n) (x := x) (er := er) (j := j) (n1 := n1) hkl hn h
 have HST0 := Lib.hid hst0
 clear hst0 hsz
 generalize hT0 : Rx.rowF inner l k = T at *
 clear hT0
 go_enter Tryd.func37, Tryd.ntmps37
 go_wp2_with fail
 have uG0 := R.lt.2.1
 have Dr : At ((w).alloc (.cells #[.int .u64 0, .int .u64 0, .int .u64 0, .int .u64 0, .int .u64 0, .int .u64 0, .int .u64 0, .int .u64 0, .bool false] 53)) (w.heap.size) [.int .u64 0, .int .u64 0, .int .u64 0, .int .u64 0, .int .u64 0, .int .u64 0, .int .u64 0, .int .u64 0, .bool false] := by have h := (At.new (w) #[.int .u64 0, .int .u64 0, .int .u64 0, .int .u64 0, .int .u64 0, .int .u64 0, .int .u64 0, .int .u64 0, .bool false] 53); simpa using h
 have R := (R.alloc (.cells #[.int .u64 0, .int .u64 0, .int .u64 0, .int .u64 0, .int .u64 0, .int .u64 0, .int .u64 0, .int .u64 0, .bool false] 53))
 have P := (P.alloc (.cells #[.int .u64 0, .int .u64 0, .int .u64 0, .int .u64 0, .int .u64 0, .int .u64 0, .int .u64 0, .int .u64 0, .bool false] 53))
 have ltr := Dr.lt
 refine (HA _ _ k n _ R hn).mono ?_
 rintro e w1 ⟨x, er, g1, cap1, n1, j, rfl, hst, R2, K2⟩
 have hrow := K2.row
 have qr1 : g1 ≠ w.heap.size := by omega
 have Dr := Dr.kp K2 (by omega) (by omega)
 have P := P.trans K2
 have R := R2
 clear R2 K2 hrow ltr
 have fr := Dr.f9
 have fR := R.f
 have hst := HST0.out _ _ _ _ hst
 have HST := Lib.hid hst
 clear hst HST0
 clear fr fR
 have fr := Dr.f9
 have fR := R.f
 go_wp2_with fail
 clear fr fR
 have ur1 := Dr.lt
 have uG1 := R.lt.2.1
 have Da : At ((w1).alloc (.cells #[.int .u64 (word (x.first) 0), .int .u64 (word (x.first) 1), .int .u64 (word (x.first) 2), .int .u64 (word (x.first) 3), .int .u64 (word (x.last) 0), .int .u64 (word (x.last) 1), .int .u64 (word (x.last) 2), .int .u64 (word (x.last) 3), .bool x.none] 53)) (w1.heap.size) [.int .u64 (word (x.first) 0), .int .u64 (word (x.first) 1), .int .u64 (word (x.first) 2), .int .u64 (word (x.first) 3), .int .u64 (word (x.last) 0), .int .u64 (word (x.last) 1), .int .u64 (word (x.last) 2), .int .u64 (word (x.last) 3), .bool x.none] := by have h := (At.new (w1) #[.int .u64 (word (x.first) 0), .int .u64 (word (x.first) 1), .int .u64 (word (x.first) 2), .int .u64 (word (x.first) 3), .int .u64 (word (x.last) 0), .int .u64 (word (x.last) 1), .int .u64 (word (x.last) 2), .int .u64 (word (x.last) 3), .bool x.none] 53); simpa using h
 have Dr := (Dr.alloc (.cells #[.int .u64 (word (x.first) 0), .int .u64 (word (x.first) 1), .int .u64 (word (x.first) 2), .int .u64 (word (x.first) 3), .int .u64 (word (x.last) 0), .int .u64 (word (x.last) 1), .int .u64 (word (x.last) 2), .int .u64 (word (x.last) 3), .bool x.none] 53))
 have R := (R.alloc (.cells #[.int .u64 (word (x.first) 0), .int .u64 (word (x.first) 1), .int .u64 (word (x.first) 2), .int .u64 (word (x.first) 3), .int .u64 (word (x.last) 0), .int .u64 (word (x.last) 1), .int .u64 (word (x.last) 2), .int .u64 (word (x.last) 3), .bool x.none] 53))
 have P := (P.alloc (.cells #[.int .u64 (word (x.first) 0), .int .u64 (word (x.first) 1), .int .u64 (word (x.first) 2), .int .u64 (word (x.first) 3), .int .u64 (word (x.last) 0), .int .u64 (word (x.last) 1), .int .u64 (word (x.last) 2), .int .u64 (word (x.last) 3), .bool x.none] 53))
 generalize (w1).alloc (.cells #[.int .u64 (word (x.first) 0), .int .u64 (word (x.first) 1), .int .u64 (word (x.first) 2), .int .u64 (word (x.first) 3), .int .u64 (word (x.last) 0), .int .u64 (word (x.last) 1), .int .u64 (word (x.last) 2), .int .u64 (word (x.last) 3), .bool x.none] 53) = wl at *
 have hsep := ur1
 have hgm := uG1
 generalize w1.heap.size = ba at *
 go_loopw [7] (fun e7 wr => ∃ (x : Rx.Pce) (er : Int) (j g1 cap1 : Nat) (n1 : Rx.Nt), e7 = .int .i64 er ∧ RowSt inner l T n x er j n1 ∧ g1 ≠ ba ∧ g1 ≠ w.heap.size ∧ ba < wr.heap.size ∧ At wr ba [.int .u64 (word (x.first) 0), .int .u64 (word (x.first) 1), .int .u64 (word (x.first) 2), .int .u64 (word (x.first) 3), .int .u64 (word (x.last) 0), .int .u64 (word (x.last) 1), .int .u64 (word (x.last) 2), .int .u64 (word (x.last) 3), .bool x.none] ∧ At wr w.heap.size [.int .u64 0, .int .u64 0, .int .u64 0, .int .u64 0, .int .u64 0, .int .u64 0, .int .u64 0, .int .u64 0, .bool false] ∧ Rd base b g1 cap1 s l j n1 wr ∧ Kp b g w g1 wr) (fun e7 wr => brM l b e7 wr)
 case atStart => exact ⟨x, er, j, _, _, n1, rfl, HST.out, by omega, by omega, Da.lt, Da, Dr, R, P⟩
 case round =>
  clear Da Dr R P HST
  obtain ⟨x, er, j, g0, cap0, n1, rfl, hst, hq1, hq2, hz, Da, Dr, R, P⟩ := hrel
  have hMM := place_rd R
  have HM := Lib.hid hMM
  clear hMM
  have hjl := R.kl
  have hz2 := Dr.lt
  have hsz := HSZ.out
  rcases hst with ⟨rfl, hnl, f, acc, hT, hf, hx, hn1⟩ | ⟨er, rfl, her, hT, hlen⟩
  ·
   have HX := Lib.hid hx
   have HN := Lib.hid hn1
   clear hx hn1
   by_cases hend : l.length ≤ j
   ·
    have hov := row_over hT hf HX.out HN.out (by unfold Rx.rowEnd; rw [decide_eq_true hend]; rfl)
    have HOV := Lib.hid hov
    have d1 : decide ((j : Int) < (s.size : Int)) = false := decide_eq_false (by omega)
    have d2 : decide (j < s.size) = false := decide_eq_false (by omega)
    clear hov hsz hT HX HN
    go_upto_region 2 with (fail)
    have Dr : At ((wr).drew) (w.heap.size) [.int .u64 0, .int .u64 0, .int .u64 0, .int .u64 0, .int .u64 0, .int .u64 0, .int .u64 0, .int .u64 0, .bool false] := Dr.drew
    have Da : At ((wr).drew) (ba) [.int .u64 (word (x.first) 0), .int .u64 (word (x.first) 1), .int .u64 (word (x.first) 2), .int .u64 (word (x.first) 3), .int .u64 (word (x.last) 0), .int .u64 (word (x.last) 1), .int .u64 (word (x.last) 2), .int .u64 (word (x.last) 3), .bool x.none] := Da.drew
    have R := R.drew
    have P := P.drew
    refine wp_region_held_drew (S := fun u => At u b [.string s, .int .i64 (j : Int), rowV g0 n1.length cap0]) (by kernel_rfl) ?_ (fun hS => ?_)
    ·
     exact R.cells
    generalize (wr).drew = v1 at *
    refine' wpAnyH_take (i := 0) (oi := ?oir1) (v := ?vr1) ?hir1 (by kernel_rfl) (by kernel_rfl) (by kernel_rfl) ?hQr1 ?hyr1 hS ?restr1
    case hir1 =>
     simp only [qa, qb, qc]
     exact rfl
    case hQr1 => exact fun _ _ _ h => h
    case hyr1 =>
     refine Or.inl ⟨by rfl, ?_⟩
     intro u hSw
     go_simp
     (try with_reducible rfl)
    (try simp only [Act.put, qd, qe, qf])
    refine' wpAnyH_take (i := 1) (oi := ?oir2) (v := ?vr2) ?hir2 (by kernel_rfl) (by kernel_rfl) (by kernel_rfl) ?hQr2 ?hyr2 hS ?restr2
    case hir2 =>
     simp only [qa, qb, qc]
     exact rfl
    case hQr2 => exact fun _ _ _ h => h
    case hyr2 =>
     refine Or.inl ⟨by rfl, ?_⟩
     intro u hSw
     go_simp
     (try with_reducible rfl)
    (try simp only [Act.put, qd, qe, qf])
    refine' wpAnyH_take (i := 2) (oi := ?oir3) (v := ?vr3) ?hir3 (by kernel_rfl) (by kernel_rfl) (by kernel_rfl) ?hQr3 ?hyr3 hS ?restr3
    case hir3 =>
     simp only [qa, qb, qc]
     exact rfl
    case hQr3 => exact fun _ _ _ h => h
    case hyr3 =>
     refine Or.inl ⟨by rfl, ?_⟩
     intro u hSw
     go_simp
     (try with_reducible rfl)
    (try simp only [Act.put, qd, qe, qf])
    refine' wpAnyH_take (i := 3) (oi := ?oir4) (v := ?vr4) ?hir4 (by kernel_rfl) (by kernel_rfl) (by kernel_rfl) ?hQr4 ?hyr4 hS ?restr4
    case hir4 =>
     simp only [qa, qb, qc]
     exact rfl
    case hQr4 => exact fun _ _ _ h => h
    case hyr4 =>
     refine Or.inl ⟨by rfl, ?_⟩
     intro u hSw
     go_simp
     (try with_reducible rfl)
    (try simp only [Act.put, qd, qe, qf])
    refine' wpAnyH_take (i := 4) (oi := ?oir5) (v := ?vr5) ?hir5 (by kernel_rfl) (by kernel_rfl) (by kernel_rfl) ?hQr5 ?hyr5 hS ?restr5
    case hir5 =>
     simp only [qa, qb, qc]
     exact rfl
    case hQr5 => exact fun _ _ _ h => h
    case hyr5 =>
     refine Or.inl ⟨by rfl, ?_⟩
     intro u hSw
     go_simp
     (try with_reducible rfl)
    (try simp only [Act.put, qd, qe, qf])
    refine' wpAnyH_take (i := 5) (oi := ?oir6) (v := ?vr6) ?hir6 (by kernel_rfl) (by kernel_rfl) (by kernel_rfl) ?hQr6 ?hyr6 hS ?restr6
    case hir6 =>
     simp only [qa, qb, qc]
     exact rfl
    case hQr6 => exact fun _ _ _ h => h
    case hyr6 =>
     refine Or.inl ⟨by rfl, ?_⟩
     intro u hSw
     go_simp
     (try with_reducible rfl)
    (try simp only [Act.put, qd, qe, qf])
    refine' wpAnyH_take (i := 6) (oi := ?oir7) (v := ?vr7) ?hir7 (by kernel_rfl) (by kernel_rfl) (by kernel_rfl) ?hQr7 ?hyr7 hS ?restr7
    case hir7 =>
     simp only [qa, qb, qc]
     exact rfl
    case hQr7 => exact fun _ _ _ h => h
    case hyr7 =>
     refine Or.inl ⟨by rfl, ?_⟩
     intro u hSw
     have eR := hSw
     have kR0 := eR.cell 0 _ rfl
     have kR1 := eR.cell 1 _ rfl
     have kR2 := eR.cell 2 _ rfl
     have mR := eR.lt
     clear eR
     go_simp
     (try with_reducible rfl)
    (try simp only [Act.put, qd, qe, qf])
    refine' wpAnyH_take (i := 7) (oi := ?oir8) (v := ?vr8) ?hir8 (by kernel_rfl) (by kernel_rfl) (by kernel_rfl) ?hQr8 ?hyr8 hS ?restr8
    case hir8 =>
     simp only [qa, qb, qc]
     exact rfl
    case hQr8 => exact fun _ _ _ h => h
    case hyr8 =>
     refine Or.inl ⟨by rfl, ?_⟩
     intro u hSw
     go_simp
     (try with_reducible rfl)
    (try simp only [Act.put, qd, qe, qf])
    refine' wpAnyH_take (i := 8) (oi := ?oir9) (v := ?vr9) ?hir9 (by kernel_rfl) (by kernel_rfl) (by kernel_rfl) ?hQr9 ?hyr9 hS ?restr9
    case hir9 =>
     simp only [qa, qb, qc]
     exact rfl
    case hQr9 => exact fun _ _ _ h => h
    case hyr9 =>
     refine Or.inl ⟨by rfl, ?_⟩
     intro u hSw
     go_simp
     (try with_reducible rfl)
    (try simp only [Act.put, qd, qe, qf])
    refine' wpAnyH_take (i := 9) (oi := ?oir10) (v := ?vr10) ?hir10 (by kernel_rfl) (by kernel_rfl) (by kernel_rfl) ?hQr10 ?hyr10 hS ?restr10
    case hir10 =>
     simp only [qa, qb, qc]
     exact rfl
    case hQr10 => exact fun _ _ _ h => h
    case hyr10 =>
     refine Or.inl ⟨by rfl, ?_⟩
     intro u hSw
     go_simp
     (try with_reducible rfl)
    (try simp only [Act.put, qd, qe, qf])
    refine' wpAnyH_take (i := 10) (oi := ?oir11) (v := ?vr11) ?hir11 (by kernel_rfl) (by kernel_rfl) (by kernel_rfl) ?hQr11 ?hyr11 hS ?restr11
    case hir11 =>
     simp only [qa, qb, qc]
     exact rfl
    case hQr11 => exact fun _ _ _ h => h
    case hyr11 =>
     refine Or.inl ⟨by rfl, ?_⟩
     intro u hSw
     have eR := hSw
     have kR0 := eR.cell 0 _ rfl
     have kR1 := eR.cell 1 _ rfl
     have kR2 := eR.cell 2 _ rfl
     have mR := eR.lt
     clear eR
     go_simp
     (try with_reducible rfl)
    (try simp only [Act.put, qd, qe, qf])
    refine' wpAnyH_take (i := 11) (oi := ?oir12) (v := ?vr12) ?hir12 (by kernel_rfl) (by kernel_rfl) (by kernel_rfl) ?hQr12 ?hyr12 hS ?restr12
    case hir12 =>
     simp only [qa, qb, qc]
     exact rfl
    case hQr12 => exact fun _ _ _ h => h
    case hyr12 =>
     refine Or.inl ⟨by rfl, ?_⟩
     intro u hSw
     go_simp
     (try with_reducible rfl)
    (try simp only [Act.put, qd, qe, qf])
    refine' wpAnyH_take (i := 12) (oi := ?oir13) (v := ?vr13) ?hir13 (by kernel_rfl) (by kernel_rfl) (by kernel_rfl) ?hQr13 ?hyr13 hS ?restr13
    case hir13 =>
     simp only [qa, qb, qc]
     exact rfl
    case hQr13 => exact fun _ _ _ h => h
    case hyr13 =>
     refine Or.inl ⟨by rfl, ?_⟩
     intro u hSw
     go_simp
     (try with_reducible rfl)
    (try simp only [Act.put, qd, qe, qf])
    refine' wpAnyH_take (i := 13) (oi := ?oir14) (v := ?vr14) ?hir14 (by kernel_rfl) (by kernel_rfl) (by kernel_rfl) ?hQr14 ?hyr14 hS ?restr14
    case hir14 =>
     simp only [qa, qb, qc]
     exact rfl
    case hQr14 => exact fun _ _ _ h => h
    case hyr14 =>
     refine Or.inl ⟨by rfl, ?_⟩
     intro u hSw
     go_simp
     (try with_reducible rfl)
    (try simp only [Act.put, qd, qe, qf])
    refine' wpAnyH_take (i := 14) (oi := ?oir15) (v := ?vr15) ?hir15 (by kernel_rfl) (by kernel_rfl) (by kernel_rfl) ?hQr15 ?hyr15 hS ?restr15
    case hir15 =>
     simp only [qa, qb, qc]
     exact rfl
    case hQr15 => exact fun _ _ _ h => h
    case hyr15 =>
     refine Or.inl ⟨by rfl, ?_⟩
     intro u hSw
     go_simp
     (try with_reducible rfl)
    (try simp only [Act.put, qd, qe, qf])
    refine' wpAnyH_take (i := 15) (oi := ?oir16) (v := undef) ?hir16 (by kernel_rfl) (by kernel_rfl) (by kernel_rfl) ?hQr16 ?hyr16 hS ?restr16
    case hir16 =>
     simp only [qa, qb, qc]
     exact rfl
    case hQr16 => exact fun _ _ _ h => h
    case hyr16 => exact Or.inr ⟨by rfl, rfl⟩
    (try simp only [Act.put, qd, qe, qf])
    refine' wpAnyH_take (i := 16) (oi := ?oir17) (v := undef) ?hir17 (by kernel_rfl) (by kernel_rfl) (by kernel_rfl) ?hQr17 ?hyr17 hS ?restr17
    case hir17 =>
     simp only [qa, qb, qc]
     exact rfl
    case hQr17 => exact fun _ _ _ h => h
    case hyr17 => exact Or.inr ⟨by rfl, rfl⟩
    (try simp only [Act.put, qd, qe, qf])
    refine' wpAnyH_take (i := 17) (oi := ?oir18) (v := undef) ?hir18 (by kernel_rfl) (by kernel_rfl) (by kernel_rfl) ?hQr18 ?hyr18 hS ?restr18
    case hir18 =>
     simp only [qa, qb, qc]
     exact rfl
    case hQr18 => exact fun _ _ _ h => h
    case hyr18 => exact Or.inr ⟨by rfl, rfl⟩
    (try simp only [Act.put, qd, qe, qf])
    refine' wpAnyH_take (i := 18) (oi := ?oir19) (v := ?vr19) ?hir19 (by kernel_rfl) (by kernel_rfl) (by kernel_rfl) ?hQr19 ?hyr19 hS ?restr19
    case hir19 =>
     simp only [qa, qb, qc]
     exact rfl
    case hQr19 => exact fun _ _ _ h => h
    case hyr19 =>
     refine Or.inl ⟨by rfl, ?_⟩
     intro u hSw
     go_simp
     (try with_reducible rfl)
    (try simp only [Act.put, qd, qe, qf])
    refine' wpAnyH_take (i := 19) (oi := ?oir20) (v := ?vr20) ?hir20 (by kernel_rfl) (by kernel_rfl) (by kernel_rfl) ?hQr20 ?hyr20 hS ?restr20
    case hir20 =>
     simp only [qa, qb, qc]
     exact rfl
    case hQr20 => exact fun _ _ _ h => h
    case hyr20 =>
     refine Or.inl ⟨by rfl, ?_⟩
     intro u hSw
     go_simp
     (try with_reducible rfl)
    (try simp only [Act.put, qd, qe, qf])
    refine' wpAnyH_take (i := 20) (oi := ?oir21) (v := undef) ?hir21 (by kernel_rfl) (by kernel_rfl) (by kernel_rfl) ?hQr21 ?hyr21 hS ?restr21
    case hir21 =>
     simp only [qa, qb, qc]
     exact rfl
    case hQr21 => exact fun _ _ _ h => h
    case hyr21 => exact Or.inr ⟨by rfl, rfl⟩
    (try simp only [Act.put, qd, qe, qf])
    refine' wpAnyH_take (i := 21) (oi := ?oir22) (v := undef) ?hir22 (by kernel_rfl) (by kernel_rfl) (by kernel_rfl) ?hQr22 ?hyr22 hS ?restr22
    case hir22 =>
     simp only [qa, qb, qc]
     exact rfl
    case hQr22 => exact fun _ _ _ h => h
    case hyr22 => exact Or.inr ⟨by rfl, rfl⟩
    (try simp only [Act.put, qd, qe, qf])
    refine' wpAnyH_take (i := 22) (oi := ?oir23) (v := undef) ?hir23 (by kernel_rfl) (by kernel_rfl) (by kernel_rfl) ?hQr23 ?hyr23 hS ?restr23
    case hir23 =>
     simp only [qa, qb, qc]
     exact rfl
    case hQr23 => exact fun _ _ _ h => h
    case hyr23 => exact Or.inr ⟨by rfl, rfl⟩
    (try simp only [Act.put, qd, qe, qf])
    refine' wpAnyH_take (i := 23) (oi := ?oir24) (v := ?vr24) ?hir24 (by kernel_rfl) (by kernel_rfl) (by kernel_rfl) ?hQr24 ?hyr24 hS ?restr24
    case hir24 =>
     simp only [qa, qb, qc]
     exact rfl
    case hQr24 => exact fun _ _ _ h => h
    case hyr24 =>
     refine Or.inl ⟨by rfl, ?_⟩
     intro u hSw
     go_simp
     (try with_reducible rfl)
    (try simp only [Act.put, qd, qe, qf])
    refine wpAnyH_done (by kernel_rfl) ?_ _
    clear hS
    have fr := Dr.f9
    have fa := Da.f9
    have fR := R.f
    go_wp2
    clear fr fa fR
    have Dr := (Dr.puts9 (.int .u64 (word (x.first) 0)) (.int .u64 (word (x.first) 1)) (.int .u64 (word (x.first) 2)) (.int .u64 (word (x.first) 3)) (.int .u64 (word (x.last) 0)) (.int .u64 (word (x.last) 1)) (.int .u64 (word (x.last) 2)) (.int .u64 (word (x.last) 3)) (.bool x.none))
    have Da := (Da.fars9 (w.heap.size) (by omega) (.int .u64 (word (x.first) 0)) (.int .u64 (word (x.first) 1)) (.int .u64 (word (x.first) 2)) (.int .u64 (word (x.first) 3)) (.int .u64 (word (x.last) 0)) (.int .u64 (word (x.last) 1)) (.int .u64 (word (x.last) 2)) (.int .u64 (word (x.last) 3)) (.bool x.none))
    have R := (R.fars9 (w.heap.size) (by omega) (by omega) (by omega) (.int .u64 (word (x.first) 0)) (.int .u64 (word (x.first) 1)) (.int .u64 (word (x.first) 2)) (.int .u64 (word (x.first) 3)) (.int .u64 (word (x.last) 0)) (.int .u64 (word (x.last) 1)) (.int .u64 (word (x.last) 2)) (.int .u64 (word (x.last) 3)) (.bool x.none))
    have P := (P.sets9 (w.heap.size) (by omega) (.int .u64 (word (x.first) 0)) (.int .u64 (word (x.first) 1)) (.int .u64 (word (x.first) 2)) (.int .u64 (word (x.first) 3)) (.int .u64 (word (x.last) 0)) (.int .u64 (word (x.last) 1)) (.int .u64 (word (x.last) 2)) (.int .u64 (word (x.last) 3)) (.bool x.none))
    have fr := Dr.f9
    have fa := Da.f9
    have fR := R.f
    refine bodyPost_ret (v := .tuple #[.agg #[.int .u64 (word (x.first) 0), .int .u64 (word (x.first) 1), .int .u64 (word (x.first) 2), .int .u64 (word (x.first) 3), .int .u64 (word (x.last) 0), .int .u64 (word (x.last) 1), .int .u64 (word (x.last) 2), .int .u64 (word (x.last) 3), .bool x.none], .int .i64 0]) (by simp [results, Tryd.results37, go_sem, fr]; try rfl) rfl ?_
    exact ⟨x, 0, _, _, n1, j, rfl, HOV.out, R, P⟩
   ·
    have hjlt : j < l.length := by omega
    have d1 : decide ((j : Int) < (s.size : Int)) = true := decide_eq_true (by omega)
    have d2 : decide (j < s.size) = true := decide_eq_true (by omega)
    by_cases h124 : Rx.pk l j = 124
    ·
     have hov := row_over hT hf HX.out HN.out (by unfold Rx.rowEnd; rw [show (Rx.pk l j == 124) = true from by rw [beq_iff_eq]; exact h124]; simp)
     have HOV := Lib.hid hov
     have p1 : ((Rx.pk l j : Int) != 124) = false := by rw [h124]; simp
     clear hov hsz hT HX HN h124
     go_upto_region 2 with (fail)
     have Dr : At ((wr).drew) (w.heap.size) [.int .u64 0, .int .u64 0, .int .u64 0, .int .u64 0, .int .u64 0, .int .u64 0, .int .u64 0, .int .u64 0, .bool false] := Dr.drew
     have Da : At ((wr).drew) (ba) [.int .u64 (word (x.first) 0), .int .u64 (word (x.first) 1), .int .u64 (word (x.first) 2), .int .u64 (word (x.first) 3), .int .u64 (word (x.last) 0), .int .u64 (word (x.last) 1), .int .u64 (word (x.last) 2), .int .u64 (word (x.last) 3), .bool x.none] := Da.drew
     have R := R.drew
     have P := P.drew
     refine wp_region_held_drew (S := fun u => At u b [.string s, .int .i64 (j : Int), rowV g0 n1.length cap0]) (by kernel_rfl) ?_ (fun hS => ?_)
     ·
      exact R.cells
     generalize (wr).drew = v1 at *
     refine' wpAnyH_take (i := 0) (oi := ?oir26) (v := ?vr26) ?hir26 (by kernel_rfl) (by kernel_rfl) (by kernel_rfl) ?hQr26 ?hyr26 hS ?restr26
     case hir26 =>
      simp only [qa, qb, qc]
      exact rfl
     case hQr26 => exact fun _ _ _ h => h
     case hyr26 =>
      refine Or.inl ⟨by rfl, ?_⟩
      intro u hSw
      go_simp
      (try with_reducible rfl)
     (try simp only [Act.put, qd, qe, qf])
     refine' wpAnyH_take (i := 1) (oi := ?oir27) (v := ?vr27) ?hir27 (by kernel_rfl) (by kernel_rfl) (by kernel_rfl) ?hQr27 ?hyr27 hS ?restr27
     case hir27 =>
      simp only [qa, qb, qc]
      exact rfl
     case hQr27 => exact fun _ _ _ h => h
     case hyr27 =>
      refine Or.inl ⟨by rfl, ?_⟩
      intro u hSw
      go_simp
      (try with_reducible rfl)
     (try simp only [Act.put, qd, qe, qf])
     refine' wpAnyH_take (i := 2) (oi := ?oir28) (v := ?vr28) ?hir28 (by kernel_rfl) (by kernel_rfl) (by kernel_rfl) ?hQr28 ?hyr28 hS ?restr28
     case hir28 =>
      simp only [qa, qb, qc]
      exact rfl
     case hQr28 => exact fun _ _ _ h => h
     case hyr28 =>
      refine Or.inl ⟨by rfl, ?_⟩
      intro u hSw
      go_simp
      (try with_reducible rfl)
     (try simp only [Act.put, qd, qe, qf])
     refine' wpAnyH_take (i := 3) (oi := ?oir29) (v := ?vr29) ?hir29 (by kernel_rfl) (by kernel_rfl) (by kernel_rfl) ?hQr29 ?hyr29 hS ?restr29
     case hir29 =>
      simp only [qa, qb, qc]
      exact rfl
     case hQr29 => exact fun _ _ _ h => h
     case hyr29 =>
      refine Or.inl ⟨by rfl, ?_⟩
      intro u hSw
      go_simp
      (try with_reducible rfl)
     (try simp only [Act.put, qd, qe, qf])
     refine' wpAnyH_take (i := 4) (oi := ?oir30) (v := ?vr30) ?hir30 (by kernel_rfl) (by kernel_rfl) (by kernel_rfl) ?hQr30 ?hyr30 hS ?restr30
     case hir30 =>
      simp only [qa, qb, qc]
      exact rfl
     case hQr30 => exact fun _ _ _ h => h
     case hyr30 =>
      refine Or.inl ⟨by rfl, ?_⟩
      intro u hSw
      go_simp
      (try with_reducible rfl)
     (try simp only [Act.put, qd, qe, qf])
     refine' wpAnyH_take (i := 5) (oi := ?oir31) (v := ?vr31) ?hir31 (by kernel_rfl) (by kernel_rfl) (by kernel_rfl) ?hQr31 ?hyr31 hS ?restr31
     case hir31 =>
      simp only [qa, qb, qc]
      exact rfl
     case hQr31 => exact fun _ _ _ h => h
     case hyr31 =>
      refine Or.inl ⟨by rfl, ?_⟩
      intro u hSw
      go_simp
      (try with_reducible rfl)
     (try simp only [Act.put, qd, qe, qf])
     refine' wpAnyH_take (i := 6) (oi := ?oir32) (v := ?vr32) ?hir32 (by kernel_rfl) (by kernel_rfl) (by kernel_rfl) ?hQr32 ?hyr32 hS ?restr32
     case hir32 =>
      simp only [qa, qb, qc]
      exact rfl
     case hQr32 => exact fun _ _ _ h => h
     case hyr32 =>
      refine Or.inl ⟨by rfl, ?_⟩
      intro u hSw
      have eR := hSw
      have kR0 := eR.cell 0 _ rfl
      have kR1 := eR.cell 1 _ rfl
      have kR2 := eR.cell 2 _ rfl
      have mR := eR.lt
      clear eR
      go_simp
      (try with_reducible rfl)
     (try simp only [Act.put, qd, qe, qf])
     refine' wpAnyH_take (i := 7) (oi := ?oir33) (v := ?vr33) ?hir33 (by kernel_rfl) (by kernel_rfl) (by kernel_rfl) ?hQr33 ?hyr33 hS ?restr33
     case hir33 =>
      simp only [qa, qb, qc]
      exact rfl
     case hQr33 => exact fun _ _ _ h => h
     case hyr33 =>
      refine Or.inl ⟨by rfl, ?_⟩
      intro u hSw
      go_simp
      (try with_reducible rfl)
     (try simp only [Act.put, qd, qe, qf])
     refine' wpAnyH_take (i := 8) (oi := ?oir34) (v := ?vr34) ?hir34 (by kernel_rfl) (by kernel_rfl) (by kernel_rfl) ?hQr34 ?hyr34 hS ?restr34
     case hir34 =>
      simp only [qa, qb, qc]
      exact rfl
     case hQr34 => exact fun _ _ _ h => h
     case hyr34 =>
      refine Or.inl ⟨by rfl, ?_⟩
      intro u hSw
      go_simp
      (try with_reducible rfl)
     (try simp only [Act.put, qd, qe, qf])
     refine' wpAnyH_take (i := 9) (oi := ?oir35) (v := ?vr35) ?hir35 (by kernel_rfl) (by kernel_rfl) (by kernel_rfl) ?hQr35 ?hyr35 hS ?restr35
     case hir35 =>
      simp only [qa, qb, qc]
      exact rfl
     case hQr35 => exact fun _ _ _ h => h
     case hyr35 =>
      refine Or.inl ⟨by rfl, ?_⟩
      intro u hSw
      go_simp
      (try with_reducible rfl)
     (try simp only [Act.put, qd, qe, qf])
     refine' wpAnyH_take (i := 10) (oi := ?oir36) (v := ?vr36) ?hir36 (by kernel_rfl) (by kernel_rfl) (by kernel_rfl) ?hQr36 ?hyr36 hS ?restr36
     case hir36 =>
      simp only [qa, qb, qc]
      exact rfl
     case hQr36 => exact fun _ _ _ h => h
     case hyr36 =>
      refine Or.inl ⟨by rfl, ?_⟩
      intro u hSw
      have eR := hSw
      have kR0 := eR.cell 0 _ rfl
      have kR1 := eR.cell 1 _ rfl
      have kR2 := eR.cell 2 _ rfl
      have mR := eR.lt
      clear eR
      go_simp
      (try with_reducible rfl)
     (try simp only [Act.put, qd, qe, qf])
     refine' wpAnyH_take (i := 11) (oi := ?oir37) (v := ?vr37) ?hir37 (by kernel_rfl) (by kernel_rfl) (by kernel_rfl) ?hQr37 ?hyr37 hS ?restr37
     case hir37 =>
      simp only [qa, qb, qc]
      exact rfl
     case hQr37 => exact fun _ _ _ h => h
     case hyr37 =>
      refine Or.inl ⟨by rfl, ?_⟩
      intro u hSw
      go_simp
      (try with_reducible rfl)
     (try simp only [Act.put, qd, qe, qf])
     refine' wpAnyH_take (i := 12) (oi := ?oir38) (v := ?vr38) ?hir38 (by kernel_rfl) (by kernel_rfl) (by kernel_rfl) ?hQr38 ?hyr38 hS ?restr38
     case hir38 =>
      simp only [qa, qb, qc]
      exact rfl
     case hQr38 => exact fun _ _ _ h => h
     case hyr38 =>
      refine Or.inl ⟨by rfl, ?_⟩
      intro u hSw
      go_simp
      (try with_reducible rfl)
     (try simp only [Act.put, qd, qe, qf])
     refine' wpAnyH_take (i := 13) (oi := ?oir39) (v := ?vr39) ?hir39 (by kernel_rfl) (by kernel_rfl) (by kernel_rfl) ?hQr39 ?hyr39 hS ?restr39
     case hir39 =>
      simp only [qa, qb, qc]
      exact rfl
     case hQr39 => exact fun _ _ _ h => h
     case hyr39 =>
      refine Or.inl ⟨by rfl, ?_⟩
      intro u hSw
      go_simp
      (try with_reducible rfl)
     (try simp only [Act.put, qd, qe, qf])
     refine' wpAnyH_take (i := 14) (oi := ?oir40) (v := ?vr40) ?hir40 (by kernel_rfl) (by kernel_rfl) (by kernel_rfl) ?hQr40 ?hyr40 hS ?restr40
     case hir40 =>
      simp only [qa, qb, qc]
      exact rfl
     case hQr40 => exact fun _ _ _ h => h
     case hyr40 =>
      refine Or.inl ⟨by rfl, ?_⟩
      intro u hSw
      go_simp
      (try with_reducible rfl)
     (try simp only [Act.put, qd, qe, qf])
     refine' wpAnyH_take (i := 15) (oi := ?oir41) (v := ?vr41) ?hir41 (by kernel_rfl) (by kernel_rfl) (by kernel_rfl) ?hQr41 ?hyr41 hS ?restr41
     case hir41 =>
      simp only [qa, qb, qc]
      exact rfl
     case hQr41 => exact fun _ _ _ h => h
     case hyr41 =>
      refine Or.inl ⟨by rfl, ?_⟩
      intro u hSw
      go_simp
      (try with_reducible rfl)
     (try simp only [Act.put, qd, qe, qf])
     refine wpAnyH_ready (rs := [16]) (by kernel_rfl) (by simp) ?_
     refine' AllReadyH.cons (o := ?oor42) ?hor42 (fun K hK => ?str42) AllReadyH.nil
     case hor42 =>
      simp only [qa, qb, qc]
      exact rfl
     go_simp
     go_at_call 47
     refine (peek_rd R).mono ?_
     rintro e w3 ⟨rfl, hb3⟩
     have Dr := Dr.below hb3
     have Da := Da.below hb3
     have R := R.below hb3
     have P := P.below hb3
     clear hb3
     have fr := Dr.f9
     have fa := Da.f9
     have fR := R.f
     clear fr fa fR
     refine hK.out _ _ ?_ (fun hS => ?_)
     · exact R.cells
     clear hK K
     (try simp only [Act.put, qd, qe, qf])
     refine' wpAnyH_take (i := 17) (oi := ?oir43) (v := ?vr43) ?hir43 (by kernel_rfl) (by kernel_rfl) (by kernel_rfl) ?hQr43 ?hyr43 hS ?restr43
     case hir43 =>
      simp only [qa, qb, qc]
      exact rfl
     case hQr43 => exact fun _ _ _ h => h
     case hyr43 =>
      refine Or.inl ⟨by rfl, ?_⟩
      intro u hSw
      go_simp
      (try with_reducible rfl)
     (try simp only [Act.put, qd, qe, qf])
     refine' wpAnyH_take (i := 18) (oi := ?oir44) (v := ?vr44) ?hir44 (by kernel_rfl) (by kernel_rfl) (by kernel_rfl) ?hQr44 ?hyr44 hS ?restr44
     case hir44 =>
      simp only [qa, qb, qc]
      exact rfl
     case hQr44 => exact fun _ _ _ h => h
     case hyr44 =>
      refine Or.inl ⟨by rfl, ?_⟩
      intro u hSw
      go_simp
      (try with_reducible rfl)
     (try simp only [Act.put, qd, qe, qf])
     refine' wpAnyH_take (i := 19) (oi := ?oir45) (v := ?vr45) ?hir45 (by kernel_rfl) (by kernel_rfl) (by kernel_rfl) ?hQr45 ?hyr45 hS ?restr45
     case hir45 =>
      simp only [qa, qb, qc]
      exact rfl
     case hQr45 => exact fun _ _ _ h => h
     case hyr45 =>
      refine Or.inl ⟨by rfl, ?_⟩
      intro u hSw
      go_simp
      (try with_reducible rfl)
     (try simp only [Act.put, qd, qe, qf])
     refine' wpAnyH_take (i := 20) (oi := ?oir46) (v := undef) ?hir46 (by kernel_rfl) (by kernel_rfl) (by kernel_rfl) ?hQr46 ?hyr46 hS ?restr46
     case hir46 =>
      simp only [qa, qb, qc]
      exact rfl
     case hQr46 => exact fun _ _ _ h => h
     case hyr46 => exact Or.inr ⟨by rfl, rfl⟩
     (try simp only [Act.put, qd, qe, qf])
     refine' wpAnyH_take (i := 21) (oi := ?oir47) (v := undef) ?hir47 (by kernel_rfl) (by kernel_rfl) (by kernel_rfl) ?hQr47 ?hyr47 hS ?restr47
     case hir47 =>
      simp only [qa, qb, qc]
      exact rfl
     case hQr47 => exact fun _ _ _ h => h
     case hyr47 => exact Or.inr ⟨by rfl, rfl⟩
     (try simp only [Act.put, qd, qe, qf])
     refine' wpAnyH_take (i := 22) (oi := ?oir48) (v := undef) ?hir48 (by kernel_rfl) (by kernel_rfl) (by kernel_rfl) ?hQr48 ?hyr48 hS ?restr48
     case hir48 =>
      simp only [qa, qb, qc]
      exact rfl
     case hQr48 => exact fun _ _ _ h => h
     case hyr48 => exact Or.inr ⟨by rfl, rfl⟩
     (try simp only [Act.put, qd, qe, qf])
     refine' wpAnyH_take (i := 23) (oi := ?oir49) (v := ?vr49) ?hir49 (by kernel_rfl) (by kernel_rfl) (by kernel_rfl) ?hQr49 ?hyr49 hS ?restr49
     case hir49 =>
      simp only [qa, qb, qc]
      exact rfl
     case hQr49 => exact fun _ _ _ h => h
     case hyr49 =>
      refine Or.inl ⟨by rfl, ?_⟩
      intro u hSw
      go_simp
      (try with_reducible rfl)
     (try simp only [Act.put, qd, qe, qf])
     refine wpAnyH_done (by kernel_rfl) ?_ _
     clear hS
     have fr := Dr.f9
     have fa := Da.f9
     have fR := R.f
     go_wp2
     clear fr fa fR
     have Dr := (Dr.puts9 (.int .u64 (word (x.first) 0)) (.int .u64 (word (x.first) 1)) (.int .u64 (word (x.first) 2)) (.int .u64 (word (x.first) 3)) (.int .u64 (word (x.last) 0)) (.int .u64 (word (x.last) 1)) (.int .u64 (word (x.last) 2)) (.int .u64 (word (x.last) 3)) (.bool x.none))
     have Da := (Da.fars9 (w.heap.size) (by omega) (.int .u64 (word (x.first) 0)) (.int .u64 (word (x.first) 1)) (.int .u64 (word (x.first) 2)) (.int .u64 (word (x.first) 3)) (.int .u64 (word (x.last) 0)) (.int .u64 (word (x.last) 1)) (.int .u64 (word (x.last) 2)) (.int .u64 (word (x.last) 3)) (.bool x.none))
     have R := (R.fars9 (w.heap.size) (by omega) (by omega) (by omega) (.int .u64 (word (x.first) 0)) (.int .u64 (word (x.first) 1)) (.int .u64 (word (x.first) 2)) (.int .u64 (word (x.first) 3)) (.int .u64 (word (x.last) 0)) (.int .u64 (word (x.last) 1)) (.int .u64 (word (x.last) 2)) (.int .u64 (word (x.last) 3)) (.bool x.none))
     have P := (P.sets9 (w.heap.size) (by omega) (.int .u64 (word (x.first) 0)) (.int .u64 (word (x.first) 1)) (.int .u64 (word (x.first) 2)) (.int .u64 (word (x.first) 3)) (.int .u64 (word (x.last) 0)) (.int .u64 (word (x.last) 1)) (.int .u64 (word (x.last) 2)) (.int .u64 (word (x.last) 3)) (.bool x.none))
     have fr := Dr.f9
     have fa := Da.f9
     have fR := R.f
     refine bodyPost_ret (v := .tuple #[.agg #[.int .u64 (word (x.first) 0), .int .u64 (word (x.first) 1), .int .u64 (word (x.first) 2), .int .u64 (word (x.first) 3), .int .u64 (word (x.last) 0), .int .u64 (word (x.last) 1), .int .u64 (word (x.last) 2), .int .u64 (word (x.last) 3), .bool x.none], .int .i64 0]) (by simp [results, Tryd.results37, go_sem, fr]; try rfl) rfl ?_
     exact ⟨x, 0, _, _, n1, j, rfl, HOV.out, R, P⟩
    ·
     by_cases h41 : Rx.pk l j = 41
     ·
      have hov := row_over hT hf HX.out HN.out (by unfold Rx.rowEnd; rw [show (Rx.pk l j == 41) = true from by rw [beq_iff_eq]; exact h41]; simp)
      have HOV := Lib.hid hov
      have p1 : ((Rx.pk l j : Int) != 41) = false := by rw [h41]; simp
      have p0 : ((Rx.pk l j : Int) != 124) = true := by rw [bne_iff_ne]; omega
      clear hov hsz hT HX HN h41 h124
      go_upto_region 2 with (fail)
      have Dr : At ((wr).drew) (w.heap.size) [.int .u64 0, .int .u64 0, .int .u64 0, .int .u64 0, .int .u64 0, .int .u64 0, .int .u64 0, .int .u64 0, .bool false] := Dr.drew
      have Da : At ((wr).drew) (ba) [.int .u64 (word (x.first) 0), .int .u64 (word (x.first) 1), .int .u64 (word (x.first) 2), .int .u64 (word (x.first) 3), .int .u64 (word (x.last) 0), .int .u64 (word (x.last) 1), .int .u64 (word (x.last) 2), .int .u64 (word (x.last) 3), .bool x.none] := Da.drew
      have R := R.drew
      have P := P.drew
      refine wp_region_held_drew (S := fun u => At u b [.string s, .int .i64 (j : Int), rowV g0 n1.length cap0]) (by kernel_rfl) ?_ (fun hS => ?_)
      ·
       exact R.cells
      generalize (wr).drew = v1 at *
      refine' wpAnyH_take (i := 0) (oi := ?oir51) (v := ?vr51) ?hir51 (by kernel_rfl) (by kernel_rfl) (by kernel_rfl) ?hQr51 ?hyr51 hS ?restr51
      case hir51 =>
       simp only [qa, qb, qc]
       exact rfl
      case hQr51 => exact fun _ _ _ h => h
      case hyr51 =>
       refine Or.inl ⟨by rfl, ?_⟩
       intro u hSw
       go_simp
       (try with_reducible rfl)
      (try simp only [Act.put, qd, qe, qf])
      refine' wpAnyH_take (i := 1) (oi := ?oir52) (v := ?vr52) ?hir52 (by kernel_rfl) (by kernel_rfl) (by kernel_rfl) ?hQr52 ?hyr52 hS ?restr52
      case hir52 =>
       simp only [qa, qb, qc]
       exact rfl
      case hQr52 => exact fun _ _ _ h => h
      case hyr52 =>
       refine Or.inl ⟨by rfl, ?_⟩
       intro u hSw
       go_simp
       (try with_reducible rfl)
      (try simp only [Act.put, qd, qe, qf])
      refine' wpAnyH_take (i := 2) (oi := ?oir53) (v := ?vr53) ?hir53 (by kernel_rfl) (by kernel_rfl) (by kernel_rfl) ?hQr53 ?hyr53 hS ?restr53
      case hir53 =>
       simp only [qa, qb, qc]
       exact rfl
      case hQr53 => exact fun _ _ _ h => h
      case hyr53 =>
       refine Or.inl ⟨by rfl, ?_⟩
       intro u hSw
       go_simp
       (try with_reducible rfl)
      (try simp only [Act.put, qd, qe, qf])
      refine' wpAnyH_take (i := 3) (oi := ?oir54) (v := ?vr54) ?hir54 (by kernel_rfl) (by kernel_rfl) (by kernel_rfl) ?hQr54 ?hyr54 hS ?restr54
      case hir54 =>
       simp only [qa, qb, qc]
       exact rfl
      case hQr54 => exact fun _ _ _ h => h
      case hyr54 =>
       refine Or.inl ⟨by rfl, ?_⟩
       intro u hSw
       go_simp
       (try with_reducible rfl)
      (try simp only [Act.put, qd, qe, qf])
      refine' wpAnyH_take (i := 4) (oi := ?oir55) (v := ?vr55) ?hir55 (by kernel_rfl) (by kernel_rfl) (by kernel_rfl) ?hQr55 ?hyr55 hS ?restr55
      case hir55 =>
       simp only [qa, qb, qc]
       exact rfl
      case hQr55 => exact fun _ _ _ h => h
      case hyr55 =>
       refine Or.inl ⟨by rfl, ?_⟩
       intro u hSw
       go_simp
       (try with_reducible rfl)
      (try simp only [Act.put, qd, qe, qf])
      refine' wpAnyH_take (i := 5) (oi := ?oir56) (v := ?vr56) ?hir56 (by kernel_rfl) (by kernel_rfl) (by kernel_rfl) ?hQr56 ?hyr56 hS ?restr56
      case hir56 =>
       simp only [qa, qb, qc]
       exact rfl
      case hQr56 => exact fun _ _ _ h => h
      case hyr56 =>
       refine Or.inl ⟨by rfl, ?_⟩
       intro u hSw
       go_simp
       (try with_reducible rfl)
      (try simp only [Act.put, qd, qe, qf])
      refine' wpAnyH_take (i := 6) (oi := ?oir57) (v := ?vr57) ?hir57 (by kernel_rfl) (by kernel_rfl) (by kernel_rfl) ?hQr57 ?hyr57 hS ?restr57
      case hir57 =>
       simp only [qa, qb, qc]
       exact rfl
      case hQr57 => exact fun _ _ _ h => h
      case hyr57 =>
       refine Or.inl ⟨by rfl, ?_⟩
       intro u hSw
       have eR := hSw
       have kR0 := eR.cell 0 _ rfl
       have kR1 := eR.cell 1 _ rfl
       have kR2 := eR.cell 2 _ rfl
       have mR := eR.lt
       clear eR
       go_simp
       (try with_reducible rfl)
      (try simp only [Act.put, qd, qe, qf])
      refine' wpAnyH_take (i := 7) (oi := ?oir58) (v := ?vr58) ?hir58 (by kernel_rfl) (by kernel_rfl) (by kernel_rfl) ?hQr58 ?hyr58 hS ?restr58
      case hir58 =>
       simp only [qa, qb, qc]
       exact rfl
      case hQr58 => exact fun _ _ _ h => h
      case hyr58 =>
       refine Or.inl ⟨by rfl, ?_⟩
       intro u hSw
       go_simp
       (try with_reducible rfl)
      (try simp only [Act.put, qd, qe, qf])
      refine' wpAnyH_take (i := 8) (oi := ?oir59) (v := ?vr59) ?hir59 (by kernel_rfl) (by kernel_rfl) (by kernel_rfl) ?hQr59 ?hyr59 hS ?restr59
      case hir59 =>
       simp only [qa, qb, qc]
       exact rfl
      case hQr59 => exact fun _ _ _ h => h
      case hyr59 =>
       refine Or.inl ⟨by rfl, ?_⟩
       intro u hSw
       go_simp
       (try with_reducible rfl)
      (try simp only [Act.put, qd, qe, qf])
      refine' wpAnyH_take (i := 9) (oi := ?oir60) (v := ?vr60) ?hir60 (by kernel_rfl) (by kernel_rfl) (by kernel_rfl) ?hQr60 ?hyr60 hS ?restr60
      case hir60 =>
       simp only [qa, qb, qc]
       exact rfl
      case hQr60 => exact fun _ _ _ h => h
      case hyr60 =>
       refine Or.inl ⟨by rfl, ?_⟩
       intro u hSw
       go_simp
       (try with_reducible rfl)
      (try simp only [Act.put, qd, qe, qf])
      refine' wpAnyH_take (i := 10) (oi := ?oir61) (v := ?vr61) ?hir61 (by kernel_rfl) (by kernel_rfl) (by kernel_rfl) ?hQr61 ?hyr61 hS ?restr61
      case hir61 =>
       simp only [qa, qb, qc]
       exact rfl
      case hQr61 => exact fun _ _ _ h => h
      case hyr61 =>
       refine Or.inl ⟨by rfl, ?_⟩
       intro u hSw
       have eR := hSw
       have kR0 := eR.cell 0 _ rfl
       have kR1 := eR.cell 1 _ rfl
       have kR2 := eR.cell 2 _ rfl
       have mR := eR.lt
       clear eR
       go_simp
       (try with_reducible rfl)
      (try simp only [Act.put, qd, qe, qf])
      refine' wpAnyH_take (i := 11) (oi := ?oir62) (v := ?vr62) ?hir62 (by kernel_rfl) (by kernel_rfl) (by kernel_rfl) ?hQr62 ?hyr62 hS ?restr62
      case hir62 =>
       simp only [qa, qb, qc]
       exact rfl
      case hQr62 => exact fun _ _ _ h => h
      case hyr62 =>
       refine Or.inl ⟨by rfl, ?_⟩
       intro u hSw
       go_simp
       (try with_reducible rfl)
      (try simp only [Act.put, qd, qe, qf])
      refine' wpAnyH_take (i := 12) (oi := ?oir63) (v := ?vr63) ?hir63 (by kernel_rfl) (by kernel_rfl) (by kernel_rfl) ?hQr63 ?hyr63 hS ?restr63
      case hir63 =>
       simp only [qa, qb, qc]
       exact rfl
      case hQr63 => exact fun _ _ _ h => h
      case hyr63 =>
       refine Or.inl ⟨by rfl, ?_⟩
       intro u hSw
       go_simp
       (try with_reducible rfl)
      (try simp only [Act.put, qd, qe, qf])
      refine' wpAnyH_take (i := 13) (oi := ?oir64) (v := ?vr64) ?hir64 (by kernel_rfl) (by kernel_rfl) (by kernel_rfl) ?hQr64 ?hyr64 hS ?restr64
      case hir64 =>
       simp only [qa, qb, qc]
       exact rfl
      case hQr64 => exact fun _ _ _ h => h
      case hyr64 =>
       refine Or.inl ⟨by rfl, ?_⟩
       intro u hSw
       go_simp
       (try with_reducible rfl)
      (try simp only [Act.put, qd, qe, qf])
      refine' wpAnyH_take (i := 14) (oi := ?oir65) (v := ?vr65) ?hir65 (by kernel_rfl) (by kernel_rfl) (by kernel_rfl) ?hQr65 ?hyr65 hS ?restr65
      case hir65 =>
       simp only [qa, qb, qc]
       exact rfl
      case hQr65 => exact fun _ _ _ h => h
      case hyr65 =>
       refine Or.inl ⟨by rfl, ?_⟩
       intro u hSw
       go_simp
       (try with_reducible rfl)
      (try simp only [Act.put, qd, qe, qf])
      refine' wpAnyH_take (i := 15) (oi := ?oir66) (v := ?vr66) ?hir66 (by kernel_rfl) (by kernel_rfl) (by kernel_rfl) ?hQr66 ?hyr66 hS ?restr66
      case hir66 =>
       simp only [qa, qb, qc]
       exact rfl
      case hQr66 => exact fun _ _ _ h => h
      case hyr66 =>
       refine Or.inl ⟨by rfl, ?_⟩
       intro u hSw
       go_simp
       (try with_reducible rfl)
      (try simp only [Act.put, qd, qe, qf])
      refine wpAnyH_ready (rs := [16]) (by kernel_rfl) (by simp) ?_
      refine' AllReadyH.cons (o := ?oor67) ?hor67 (fun K hK => ?str67) AllReadyH.nil
      case hor67 =>
       simp only [qa, qb, qc]
       exact rfl
      go_simp
      go_at_call 47
      refine (peek_rd R).mono ?_
      rintro e w3 ⟨rfl, hb3⟩
      have Dr := Dr.below hb3
      have Da := Da.below hb3
      have R := R.below hb3
      have P := P.below hb3
      clear hb3
      have fr := Dr.f9
      have fa := Da.f9
      have fR := R.f
      clear fr fa fR
      refine hK.out _ _ ?_ (fun hS => ?_)
      · exact R.cells
      clear hK K
      (try simp only [Act.put, qd, qe, qf])
      refine' wpAnyH_take (i := 17) (oi := ?oir68) (v := ?vr68) ?hir68 (by kernel_rfl) (by kernel_rfl) (by kernel_rfl) ?hQr68 ?hyr68 hS ?restr68
      case hir68 =>
       simp only [qa, qb, qc]
       exact rfl
      case hQr68 => exact fun _ _ _ h => h
      case hyr68 =>
       refine Or.inl ⟨by rfl, ?_⟩
       intro u hSw
       go_simp
       (try with_reducible rfl)
      (try simp only [Act.put, qd, qe, qf])
      refine' wpAnyH_take (i := 18) (oi := ?oir69) (v := ?vr69) ?hir69 (by kernel_rfl) (by kernel_rfl) (by kernel_rfl) ?hQr69 ?hyr69 hS ?restr69
      case hir69 =>
       simp only [qa, qb, qc]
       exact rfl
      case hQr69 => exact fun _ _ _ h => h
      case hyr69 =>
       refine Or.inl ⟨by rfl, ?_⟩
       intro u hSw
       go_simp
       (try with_reducible rfl)
      (try simp only [Act.put, qd, qe, qf])
      refine' wpAnyH_take (i := 19) (oi := ?oir70) (v := ?vr70) ?hir70 (by kernel_rfl) (by kernel_rfl) (by kernel_rfl) ?hQr70 ?hyr70 hS ?restr70
      case hir70 =>
       simp only [qa, qb, qc]
       exact rfl
      case hQr70 => exact fun _ _ _ h => h
      case hyr70 =>
       refine Or.inl ⟨by rfl, ?_⟩
       intro u hSw
       go_simp
       (try with_reducible rfl)
      (try simp only [Act.put, qd, qe, qf])
      refine' wpAnyH_take (i := 20) (oi := ?oir71) (v := ?vr71) ?hir71 (by kernel_rfl) (by kernel_rfl) (by kernel_rfl) ?hQr71 ?hyr71 hS ?restr71
      case hir71 =>
       simp only [qa, qb, qc]
       exact rfl
      case hQr71 => exact fun _ _ _ h => h
      case hyr71 =>
       refine Or.inl ⟨by rfl, ?_⟩
       intro u hSw
       go_simp
       (try with_reducible rfl)
      (try simp only [Act.put, qd, qe, qf])
      refine wpAnyH_ready (rs := [21]) (by kernel_rfl) (by simp) ?_
      refine' AllReadyH.cons (o := ?oor72) ?hor72 (fun K hK => ?str72) AllReadyH.nil
      case hor72 =>
       simp only [qa, qb, qc]
       exact rfl
      go_simp
      go_at_call 47
      refine (peek_rd R).mono ?_
      rintro e w4 ⟨rfl, hb4⟩
      have Dr := Dr.below hb4
      have Da := Da.below hb4
      have R := R.below hb4
      have P := P.below hb4
      clear hb4
      have fr := Dr.f9
      have fa := Da.f9
      have fR := R.f
      clear fr fa fR
      refine hK.out _ _ ?_ (fun hS => ?_)
      · exact R.cells
      clear hK K
      (try simp only [Act.put, qd, qe, qf])
      refine' wpAnyH_take (i := 22) (oi := ?oir73) (v := ?vr73) ?hir73 (by kernel_rfl) (by kernel_rfl) (by kernel_rfl) ?hQr73 ?hyr73 hS ?restr73
      case hir73 =>
       simp only [qa, qb, qc]
       exact rfl
      case hQr73 => exact fun _ _ _ h => h
      case hyr73 =>
       refine Or.inl ⟨by rfl, ?_⟩
       intro u hSw
       go_simp
       (try with_reducible rfl)
      (try simp only [Act.put, qd, qe, qf])
      refine' wpAnyH_take (i := 23) (oi := ?oir74) (v := ?vr74) ?hir74 (by kernel_rfl) (by kernel_rfl) (by kernel_rfl) ?hQr74 ?hyr74 hS ?restr74
      case hir74 =>
       simp only [qa, qb, qc]
       exact rfl
      case hQr74 => exact fun _ _ _ h => h
      case hyr74 =>
       refine Or.inl ⟨by rfl, ?_⟩
       intro u hSw
       go_simp
       (try with_reducible rfl)
      (try simp only [Act.put, qd, qe, qf])
      refine wpAnyH_done (by kernel_rfl) ?_ _
      clear hS
      have fr := Dr.f9
      have fa := Da.f9
      have fR := R.f
      go_wp2
      clear fr fa fR
      have Dr := (Dr.puts9 (.int .u64 (word (x.first) 0)) (.int .u64 (word (x.first) 1)) (.int .u64 (word (x.first) 2)) (.int .u64 (word (x.first) 3)) (.int .u64 (word (x.last) 0)) (.int .u64 (word (x.last) 1)) (.int .u64 (word (x.last) 2)) (.int .u64 (word (x.last) 3)) (.bool x.none))
      have Da := (Da.fars9 (w.heap.size) (by omega) (.int .u64 (word (x.first) 0)) (.int .u64 (word (x.first) 1)) (.int .u64 (word (x.first) 2)) (.int .u64 (word (x.first) 3)) (.int .u64 (word (x.last) 0)) (.int .u64 (word (x.last) 1)) (.int .u64 (word (x.last) 2)) (.int .u64 (word (x.last) 3)) (.bool x.none))
      have R := (R.fars9 (w.heap.size) (by omega) (by omega) (by omega) (.int .u64 (word (x.first) 0)) (.int .u64 (word (x.first) 1)) (.int .u64 (word (x.first) 2)) (.int .u64 (word (x.first) 3)) (.int .u64 (word (x.last) 0)) (.int .u64 (word (x.last) 1)) (.int .u64 (word (x.last) 2)) (.int .u64 (word (x.last) 3)) (.bool x.none))
      have P := (P.sets9 (w.heap.size) (by omega) (.int .u64 (word (x.first) 0)) (.int .u64 (word (x.first) 1)) (.int .u64 (word (x.first) 2)) (.int .u64 (word (x.first) 3)) (.int .u64 (word (x.last) 0)) (.int .u64 (word (x.last) 1)) (.int .u64 (word (x.last) 2)) (.int .u64 (word (x.last) 3)) (.bool x.none))
      have fr := Dr.f9
      have fa := Da.f9
      have fR := R.f
      refine bodyPost_ret (v := .tuple #[.agg #[.int .u64 (word (x.first) 0), .int .u64 (word (x.first) 1), .int .u64 (word (x.first) 2), .int .u64 (word (x.first) 3), .int .u64 (word (x.last) 0), .int .u64 (word (x.last) 1), .int .u64 (word (x.last) 2), .int .u64 (word (x.last) 3), .bool x.none], .int .i64 0]) (by simp [results, Tryd.results37, go_sem, fr]; try rfl) rfl ?_
      exact ⟨x, 0, _, _, n1, j, rfl, HOV.out, R, P⟩
     ·
      have hre : Rx.rowEnd l j = false := by unfold Rx.rowEnd; rw [decide_eq_false hend, show (Rx.pk l j == 124) = false from by rw [beq_eq_false_iff_ne]; exact h124, show (Rx.pk l j == 41) = false from by rw [beq_eq_false_iff_ne]; exact h41]; rfl
      have HSTEP := Lib.hid (fun x2 er2 j2 n2 h => row_step hi (x2 := x2) (er2 := er2) (j2 := j2) (n2 := n2) hjl hnl hT hf HX.out HN.out hre h)
      have p0 : ((Rx.pk l j : Int) != 124) = true := by rw [bne_iff_ne]; omega
      have p1 : ((Rx.pk l j : Int) != 41) = true := by rw [bne_iff_ne]; omega
      clear hre hsz hT HX HN h124 h41 hend
      go_upto_region 2 with (fail)
      have Dr : At ((wr).drew) (w.heap.size) [.int .u64 0, .int .u64 0, .int .u64 0, .int .u64 0, .int .u64 0, .int .u64 0, .int .u64 0, .int .u64 0, .bool false] := Dr.drew
      have Da : At ((wr).drew) (ba) [.int .u64 (word (x.first) 0), .int .u64 (word (x.first) 1), .int .u64 (word (x.first) 2), .int .u64 (word (x.first) 3), .int .u64 (word (x.last) 0), .int .u64 (word (x.last) 1), .int .u64 (word (x.last) 2), .int .u64 (word (x.last) 3), .bool x.none] := Da.drew
      have R := R.drew
      have P := P.drew
      refine wp_region_held_drew (S := fun u => At u b [.string s, .int .i64 (j : Int), rowV g0 n1.length cap0]) (by kernel_rfl) ?_ (fun hS => ?_)
      ·
       exact R.cells
      generalize (wr).drew = v1 at *
      refine' wpAnyH_take (i := 0) (oi := ?oir76) (v := ?vr76) ?hir76 (by kernel_rfl) (by kernel_rfl) (by kernel_rfl) ?hQr76 ?hyr76 hS ?restr76
      case hir76 =>
       simp only [qa, qb, qc]
       exact rfl
      case hQr76 => exact fun _ _ _ h => h
      case hyr76 =>
       refine Or.inl ⟨by rfl, ?_⟩
       intro u hSw
       go_simp
       (try with_reducible rfl)
      (try simp only [Act.put, qd, qe, qf])
      refine' wpAnyH_take (i := 1) (oi := ?oir77) (v := ?vr77) ?hir77 (by kernel_rfl) (by kernel_rfl) (by kernel_rfl) ?hQr77 ?hyr77 hS ?restr77
      case hir77 =>
       simp only [qa, qb, qc]
       exact rfl
      case hQr77 => exact fun _ _ _ h => h
      case hyr77 =>
       refine Or.inl ⟨by rfl, ?_⟩
       intro u hSw
       go_simp
       (try with_reducible rfl)
      (try simp only [Act.put, qd, qe, qf])
      refine' wpAnyH_take (i := 2) (oi := ?oir78) (v := ?vr78) ?hir78 (by kernel_rfl) (by kernel_rfl) (by kernel_rfl) ?hQr78 ?hyr78 hS ?restr78
      case hir78 =>
       simp only [qa, qb, qc]
       exact rfl
      case hQr78 => exact fun _ _ _ h => h
      case hyr78 =>
       refine Or.inl ⟨by rfl, ?_⟩
       intro u hSw
       go_simp
       (try with_reducible rfl)
      (try simp only [Act.put, qd, qe, qf])
      refine' wpAnyH_take (i := 3) (oi := ?oir79) (v := ?vr79) ?hir79 (by kernel_rfl) (by kernel_rfl) (by kernel_rfl) ?hQr79 ?hyr79 hS ?restr79
      case hir79 =>
       simp only [qa, qb, qc]
       exact rfl
      case hQr79 => exact fun _ _ _ h => h
      case hyr79 =>
       refine Or.inl ⟨by rfl, ?_⟩
       intro u hSw
       go_simp
       (try with_reducible rfl)
      (try simp only [Act.put, qd, qe, qf])
      refine' wpAnyH_take (i := 4) (oi := ?oir80) (v := ?vr80) ?hir80 (by kernel_rfl) (by kernel_rfl) (by kernel_rfl) ?hQr80 ?hyr80 hS ?restr80
      case hir80 =>
       simp only [qa, qb, qc]
       exact rfl
      case hQr80 => exact fun _ _ _ h => h
      case hyr80 =>
       refine Or.inl ⟨by rfl, ?_⟩
       intro u hSw
       go_simp
       (try with_reducible rfl)
      (try simp only [Act.put, qd, qe, qf])
      refine' wpAnyH_take (i := 5) (oi := ?oir81) (v := ?vr81) ?hir81 (by kernel_rfl) (by kernel_rfl) (by kernel_rfl) ?hQr81 ?hyr81 hS ?restr81
      case hir81 =>
       simp only [qa, qb, qc]
       exact rfl
      case hQr81 => exact fun _ _ _ h => h
      case hyr81 =>
       refine Or.inl ⟨by rfl, ?_⟩
       intro u hSw
       go_simp
       (try with_reducible rfl)
      (try simp only [Act.put, qd, qe, qf])
      refine' wpAnyH_take (i := 6) (oi := ?oir82) (v := ?vr82) ?hir82 (by kernel_rfl) (by kernel_rfl) (by kernel_rfl) ?hQr82 ?hyr82 hS ?restr82
      case hir82 =>
       simp only [qa, qb, qc]
       exact rfl
      case hQr82 => exact fun _ _ _ h => h
      case hyr82 =>
       refine Or.inl ⟨by rfl, ?_⟩
       intro u hSw
       have eR := hSw
       have kR0 := eR.cell 0 _ rfl
       have kR1 := eR.cell 1 _ rfl
       have kR2 := eR.cell 2 _ rfl
       have mR := eR.lt
       clear eR
       go_simp
       (try with_reducible rfl)
      (try simp only [Act.put, qd, qe, qf])
      refine' wpAnyH_take (i := 7) (oi := ?oir83) (v := ?vr83) ?hir83 (by kernel_rfl) (by kernel_rfl) (by kernel_rfl) ?hQr83 ?hyr83 hS ?restr83
      case hir83 =>
       simp only [qa, qb, qc]
       exact rfl
      case hQr83 => exact fun _ _ _ h => h
      case hyr83 =>
       refine Or.inl ⟨by rfl, ?_⟩
       intro u hSw
       go_simp
       (try with_reducible rfl)
      (try simp only [Act.put, qd, qe, qf])
      refine' wpAnyH_take (i := 8) (oi := ?oir84) (v := ?vr84) ?hir84 (by kernel_rfl) (by kernel_rfl) (by kernel_rfl) ?hQr84 ?hyr84 hS ?restr84
      case hir84 =>
       simp only [qa, qb, qc]
       exact rfl
      case hQr84 => exact fun _ _ _ h => h
      case hyr84 =>
       refine Or.inl ⟨by rfl, ?_⟩
       intro u hSw
       go_simp
       (try with_reducible rfl)
      (try simp only [Act.put, qd, qe, qf])
      refine' wpAnyH_take (i := 9) (oi := ?oir85) (v := ?vr85) ?hir85 (by kernel_rfl) (by kernel_rfl) (by kernel_rfl) ?hQr85 ?hyr85 hS ?restr85
      case hir85 =>
       simp only [qa, qb, qc]
       exact rfl
      case hQr85 => exact fun _ _ _ h => h
      case hyr85 =>
       refine Or.inl ⟨by rfl, ?_⟩
       intro u hSw
       go_simp
       (try with_reducible rfl)
      (try simp only [Act.put, qd, qe, qf])
      refine' wpAnyH_take (i := 10) (oi := ?oir86) (v := ?vr86) ?hir86 (by kernel_rfl) (by kernel_rfl) (by kernel_rfl) ?hQr86 ?hyr86 hS ?restr86
      case hir86 =>
       simp only [qa, qb, qc]
       exact rfl
      case hQr86 => exact fun _ _ _ h => h
      case hyr86 =>
       refine Or.inl ⟨by rfl, ?_⟩
       intro u hSw
       have eR := hSw
       have kR0 := eR.cell 0 _ rfl
       have kR1 := eR.cell 1 _ rfl
       have kR2 := eR.cell 2 _ rfl
       have mR := eR.lt
       clear eR
       go_simp
       (try with_reducible rfl)
      (try simp only [Act.put, qd, qe, qf])
      refine' wpAnyH_take (i := 11) (oi := ?oir87) (v := ?vr87) ?hir87 (by kernel_rfl) (by kernel_rfl) (by kernel_rfl) ?hQr87 ?hyr87 hS ?restr87
      case hir87 =>
       simp only [qa, qb, qc]
       exact rfl
      case hQr87 => exact fun _ _ _ h => h
      case hyr87 =>
       refine Or.inl ⟨by rfl, ?_⟩
       intro u hSw
       go_simp
       (try with_reducible rfl)
      (try simp only [Act.put, qd, qe, qf])
      refine' wpAnyH_take (i := 12) (oi := ?oir88) (v := ?vr88) ?hir88 (by kernel_rfl) (by kernel_rfl) (by kernel_rfl) ?hQr88 ?hyr88 hS ?restr88
      case hir88 =>
       simp only [qa, qb, qc]
       exact rfl
      case hQr88 => exact fun _ _ _ h => h
      case hyr88 =>
       refine Or.inl ⟨by rfl, ?_⟩
       intro u hSw
       go_simp
       (try with_reducible rfl)
      (try simp only [Act.put, qd, qe, qf])
      refine' wpAnyH_take (i := 13) (oi := ?oir89) (v := ?vr89) ?hir89 (by kernel_rfl) (by kernel_rfl) (by kernel_rfl) ?hQr89 ?hyr89 hS ?restr89
      case hir89 =>
       simp only [qa, qb, qc]
       exact rfl
      case hQr89 => exact fun _ _ _ h => h
      case hyr89 =>
       refine Or.inl ⟨by rfl, ?_⟩
       intro u hSw
       go_simp
       (try with_reducible rfl)
      (try simp only [Act.put, qd, qe, qf])
      refine' wpAnyH_take (i := 14) (oi := ?oir90) (v := ?vr90) ?hir90 (by kernel_rfl) (by kernel_rfl) (by kernel_rfl) ?hQr90 ?hyr90 hS ?restr90
      case hir90 =>
       simp only [qa, qb, qc]
       exact rfl
      case hQr90 => exact fun _ _ _ h => h
      case hyr90 =>
       refine Or.inl ⟨by rfl, ?_⟩
       intro u hSw
       go_simp
       (try with_reducible rfl)
      (try simp only [Act.put, qd, qe, qf])
      refine' wpAnyH_take (i := 15) (oi := ?oir91) (v := ?vr91) ?hir91 (by kernel_rfl) (by kernel_rfl) (by kernel_rfl) ?hQr91 ?hyr91 hS ?restr91
      case hir91 =>
       simp only [qa, qb, qc]
       exact rfl
      case hQr91 => exact fun _ _ _ h => h
      case hyr91 =>
       refine Or.inl ⟨by rfl, ?_⟩
       intro u hSw
       go_simp
       (try with_reducible rfl)
      (try simp only [Act.put, qd, qe, qf])
      refine wpAnyH_ready (rs := [16]) (by kernel_rfl) (by simp) ?_
      refine' AllReadyH.cons (o := ?oor92) ?hor92 (fun K hK => ?str92) AllReadyH.nil
      case hor92 =>
       simp only [qa, qb, qc]
       exact rfl
      go_simp
      go_at_call 47
      refine (peek_rd R).mono ?_
      rintro e w3 ⟨rfl, hb3⟩
      have Dr := Dr.below hb3
      have Da := Da.below hb3
      have R := R.below hb3
      have P := P.below hb3
      clear hb3
      have fr := Dr.f9
      have fa := Da.f9
      have fR := R.f
      clear fr fa fR
      refine hK.out _ _ ?_ (fun hS => ?_)
      · exact R.cells
      clear hK K
      (try simp only [Act.put, qd, qe, qf])
      refine' wpAnyH_take (i := 17) (oi := ?oir93) (v := ?vr93) ?hir93 (by kernel_rfl) (by kernel_rfl) (by kernel_rfl) ?hQr93 ?hyr93 hS ?restr93
      case hir93 =>
       simp only [qa, qb, qc]
       exact rfl
      case hQr93 => exact fun _ _ _ h => h
      case hyr93 =>
       refine Or.inl ⟨by rfl, ?_⟩
       intro u hSw
       go_simp
       (try with_reducible rfl)
      (try simp only [Act.put, qd, qe, qf])
      refine' wpAnyH_take (i := 18) (oi := ?oir94) (v := ?vr94) ?hir94 (by kernel_rfl) (by kernel_rfl) (by kernel_rfl) ?hQr94 ?hyr94 hS ?restr94
      case hir94 =>
       simp only [qa, qb, qc]
       exact rfl
      case hQr94 => exact fun _ _ _ h => h
      case hyr94 =>
       refine Or.inl ⟨by rfl, ?_⟩
       intro u hSw
       go_simp
       (try with_reducible rfl)
      (try simp only [Act.put, qd, qe, qf])
      refine' wpAnyH_take (i := 19) (oi := ?oir95) (v := ?vr95) ?hir95 (by kernel_rfl) (by kernel_rfl) (by kernel_rfl) ?hQr95 ?hyr95 hS ?restr95
      case hir95 =>
       simp only [qa, qb, qc]
       exact rfl
      case hQr95 => exact fun _ _ _ h => h
      case hyr95 =>
       refine Or.inl ⟨by rfl, ?_⟩
       intro u hSw
       go_simp
       (try with_reducible rfl)
      (try simp only [Act.put, qd, qe, qf])
      refine' wpAnyH_take (i := 20) (oi := ?oir96) (v := ?vr96) ?hir96 (by kernel_rfl) (by kernel_rfl) (by kernel_rfl) ?hQr96 ?hyr96 hS ?restr96
      case hir96 =>
       simp only [qa, qb, qc]
       exact rfl
      case hQr96 => exact fun _ _ _ h => h
      case hyr96 =>
       refine Or.inl ⟨by rfl, ?_⟩
       intro u hSw
       go_simp
       (try with_reducible rfl)
      (try simp only [Act.put, qd, qe, qf])
      refine wpAnyH_ready (rs := [21]) (by kernel_rfl) (by simp) ?_
      refine' AllReadyH.cons (o := ?oor97) ?hor97 (fun K hK => ?str97) AllReadyH.nil
      case hor97 =>
       simp only [qa, qb, qc]
       exact rfl
      go_simp
      go_at_call 47
      refine (peek_rd R).mono ?_
      rintro e w4 ⟨rfl, hb4⟩
      have Dr := Dr.below hb4
      have Da := Da.below hb4
      have R := R.below hb4
      have P := P.below hb4
      clear hb4
      have fr := Dr.f9
      have fa := Da.f9
      have fR := R.f
      clear fr fa fR
      refine hK.out _ _ ?_ (fun hS => ?_)
      · exact R.cells
      clear hK K
      (try simp only [Act.put, qd, qe, qf])
      refine' wpAnyH_take (i := 22) (oi := ?oir98) (v := ?vr98) ?hir98 (by kernel_rfl) (by kernel_rfl) (by kernel_rfl) ?hQr98 ?hyr98 hS ?restr98
      case hir98 =>
       simp only [qa, qb, qc]
       exact rfl
      case hQr98 => exact fun _ _ _ h => h
      case hyr98 =>
       refine Or.inl ⟨by rfl, ?_⟩
       intro u hSw
       go_simp
       (try with_reducible rfl)
      (try simp only [Act.put, qd, qe, qf])
      refine' wpAnyH_take (i := 23) (oi := ?oir99) (v := ?vr99) ?hir99 (by kernel_rfl) (by kernel_rfl) (by kernel_rfl) ?hQr99 ?hyr99 hS ?restr99
      case hir99 =>
       simp only [qa, qb, qc]
       exact rfl
      case hQr99 => exact fun _ _ _ h => h
      case hyr99 =>
       refine Or.inl ⟨by rfl, ?_⟩
       intro u hSw
       go_simp
       (try with_reducible rfl)
      (try simp only [Act.put, qd, qe, qf])
      refine wpAnyH_done (by kernel_rfl) ?_ _
      clear hS
      have fr := Dr.f9
      have fa := Da.f9
      have fR := R.f
      go_wp2_with fail
      clear fr fa fR
      have ur2 := Dr.lt
      have ua2 := Da.lt
      have uG2 := R.lt.2.1
      have Do : At ((w4).alloc (.cells #[.int .u64 0, .int .u64 0, .int .u64 0, .int .u64 0, .int .u64 0, .int .u64 0, .int .u64 0, .int .u64 0, .bool false] 53)) (w4.heap.size) [.int .u64 0, .int .u64 0, .int .u64 0, .int .u64 0, .int .u64 0, .int .u64 0, .int .u64 0, .int .u64 0, .bool false] := by have h := (At.new (w4) #[.int .u64 0, .int .u64 0, .int .u64 0, .int .u64 0, .int .u64 0, .int .u64 0, .int .u64 0, .int .u64 0, .bool false] 53); simpa using h
      have Dr := (Dr.alloc (.cells #[.int .u64 0, .int .u64 0, .int .u64 0, .int .u64 0, .int .u64 0, .int .u64 0, .int .u64 0, .int .u64 0, .bool false] 53))
      have Da := (Da.alloc (.cells #[.int .u64 0, .int .u64 0, .int .u64 0, .int .u64 0, .int .u64 0, .int .u64 0, .int .u64 0, .int .u64 0, .bool false] 53))
      have R := (R.alloc (.cells #[.int .u64 0, .int .u64 0, .int .u64 0, .int .u64 0, .int .u64 0, .int .u64 0, .int .u64 0, .int .u64 0, .bool false] 53))
      have P := (P.alloc (.cells #[.int .u64 0, .int .u64 0, .int .u64 0, .int .u64 0, .int .u64 0, .int .u64 0, .int .u64 0, .int .u64 0, .bool false] 53))
      have ltr := Dr.lt
      have lta := Da.lt
      have lto := Do.lt
      refine (HA _ _ j n1 _ R hnl).mono ?_
      rintro e w5 ⟨x2, er2, g5, cap5, n2, j2, rfl, hst, R2, K2⟩
      have hrow := K2.row
      have qr5 : g5 ≠ w.heap.size := by omega
      have qa5 : g5 ≠ ba := by omega
      have qo5 : g5 ≠ w4.heap.size := by omega
      have Dr := Dr.kp K2 (by omega) (by omega)
      have Da := Da.kp K2 (by omega) (by omega)
      have Do := Do.kp K2 (by omega) (by omega)
      have P := P.trans K2
      have R := R2
      clear R2 K2 hrow ltr lta lto
      have fr := Dr.f9
      have fa := Da.f9
      have fo := Do.f9
      have fR := R.f
      have hst := HSTEP.out _ _ _ _ hst
      have HST := Lib.hid hst
      clear hst HSTEP
      clear fr fa fo fR
      have fr := Dr.f9
      have fa := Da.f9
      have fo := Do.f9
      have fR := R.f
      go_upto_region 5 with (fail)
      clear fr fa fo fR
      have Dr := (Dr.fars9 (w4.heap.size) (by omega) (.int .u64 (word (x2.first) 0)) (.int .u64 (word (x2.first) 1)) (.int .u64 (word (x2.first) 2)) (.int .u64 (word (x2.first) 3)) (.int .u64 (word (x2.last) 0)) (.int .u64 (word (x2.last) 1)) (.int .u64 (word (x2.last) 2)) (.int .u64 (word (x2.last) 3)) (.bool x2.none))
      have Da := (Da.fars9 (w4.heap.size) (by omega) (.int .u64 (word (x2.first) 0)) (.int .u64 (word (x2.first) 1)) (.int .u64 (word (x2.first) 2)) (.int .u64 (word (x2.first) 3)) (.int .u64 (word (x2.last) 0)) (.int .u64 (word (x2.last) 1)) (.int .u64 (word (x2.last) 2)) (.int .u64 (word (x2.last) 3)) (.bool x2.none))
      have Do := (Do.puts9 (.int .u64 (word (x2.first) 0)) (.int .u64 (word (x2.first) 1)) (.int .u64 (word (x2.first) 2)) (.int .u64 (word (x2.first) 3)) (.int .u64 (word (x2.last) 0)) (.int .u64 (word (x2.last) 1)) (.int .u64 (word (x2.last) 2)) (.int .u64 (word (x2.last) 3)) (.bool x2.none))
      have R := (R.fars9 (w4.heap.size) (by omega) (by omega) (by omega) (.int .u64 (word (x2.first) 0)) (.int .u64 (word (x2.first) 1)) (.int .u64 (word (x2.first) 2)) (.int .u64 (word (x2.first) 3)) (.int .u64 (word (x2.last) 0)) (.int .u64 (word (x2.last) 1)) (.int .u64 (word (x2.last) 2)) (.int .u64 (word (x2.last) 3)) (.bool x2.none))
      have P := (P.sets9 (w4.heap.size) (by omega) (.int .u64 (word (x2.first) 0)) (.int .u64 (word (x2.first) 1)) (.int .u64 (word (x2.first) 2)) (.int .u64 (word (x2.first) 3)) (.int .u64 (word (x2.last) 0)) (.int .u64 (word (x2.last) 1)) (.int .u64 (word (x2.last) 2)) (.int .u64 (word (x2.last) 3)) (.bool x2.none))
      generalize (((((((((w5).setCell ⟨w4.heap.size, 0, none⟩ (.int .u64 (word (x2.first) 0))).setCell ⟨w4.heap.size, 1, none⟩ (.int .u64 (word (x2.first) 1))).setCell ⟨w4.heap.size, 2, none⟩ (.int .u64 (word (x2.first) 2))).setCell ⟨w4.heap.size, 3, none⟩ (.int .u64 (word (x2.first) 3))).setCell ⟨w4.heap.size, 4, none⟩ (.int .u64 (word (x2.last) 0))).setCell ⟨w4.heap.size, 5, none⟩ (.int .u64 (word (x2.last) 1))).setCell ⟨w4.heap.size, 6, none⟩ (.int .u64 (word (x2.last) 2))).setCell ⟨w4.heap.size, 7, none⟩ (.int .u64 (word (x2.last) 3))).setCell ⟨w4.heap.size, 8, none⟩ (.bool x2.none) = wo at *
      have Dr : At ((wo).drew) (w.heap.size) [.int .u64 0, .int .u64 0, .int .u64 0, .int .u64 0, .int .u64 0, .int .u64 0, .int .u64 0, .int .u64 0, .bool false] := Dr.drew
      have Da : At ((wo).drew) (ba) [.int .u64 (word (x.first) 0), .int .u64 (word (x.first) 1), .int .u64 (word (x.first) 2), .int .u64 (word (x.first) 3), .int .u64 (word (x.last) 0), .int .u64 (word (x.last) 1), .int .u64 (word (x.last) 2), .int .u64 (word (x.last) 3), .bool x.none] := Da.drew
      have Do : At ((wo).drew) (w4.heap.size) [.int .u64 (word (x2.first) 0), .int .u64 (word (x2.first) 1), .int .u64 (word (x2.first) 2), .int .u64 (word (x2.first) 3), .int .u64 (word (x2.last) 0), .int .u64 (word (x2.last) 1), .int .u64 (word (x2.last) 2), .int .u64 (word (x2.last) 3), .bool x2.none] := Do.drew
      have R := R.drew
      have P := P.drew
      refine wp_region_held_drew (S := fun u => At u (w4.heap.size) [.int .u64 (word (x2.first) 0), .int .u64 (word (x2.first) 1), .int .u64 (word (x2.first) 2), .int .u64 (word (x2.first) 3), .int .u64 (word (x2.last) 0), .int .u64 (word (x2.last) 1), .int .u64 (word (x2.last) 2), .int .u64 (word (x2.last) 3), .bool x2.none]) (by kernel_rfl) ?_ (fun hS => ?_)
      ·
       exact Do
      generalize (wo).drew = v5 at *
      refine' wpAnyH_take (i := 0) (oi := ?oir101) (v := ?vr101) ?hir101 (by kernel_rfl) (by kernel_rfl) (by kernel_rfl) ?hQr101 ?hyr101 hS ?restr101
      case hir101 =>
       simp only [qa, qb, qc]
       exact rfl
      case hQr101 => exact fun _ _ _ h => h
      case hyr101 =>
       refine Or.inl ⟨by rfl, ?_⟩
       intro u hSw
       go_simp
       (try with_reducible rfl)
      (try simp only [Act.put, qd, qe, qf])
      refine' wpAnyH_take (i := 1) (oi := ?oir102) (v := ?vr102) ?hir102 (by kernel_rfl) (by kernel_rfl) (by kernel_rfl) ?hQr102 ?hyr102 hS ?restr102
      case hir102 =>
       simp only [qa, qb, qc]
       exact rfl
      case hQr102 => exact fun _ _ _ h => h
      case hyr102 =>
       refine Or.inl ⟨by rfl, ?_⟩
       intro u hSw
       go_simp
       (try with_reducible rfl)
      (try simp only [Act.put, qd, qe, qf])
      refine' wpAnyH_take (i := 2) (oi := ?oir103) (v := ?vr103) ?hir103 (by kernel_rfl) (by kernel_rfl) (by kernel_rfl) ?hQr103 ?hyr103 hS ?restr103
      case hir103 =>
       simp only [qa, qb, qc]
       exact rfl
      case hQr103 => exact fun _ _ _ h => h
      case hyr103 =>
       refine Or.inl ⟨by rfl, ?_⟩
       intro u hSw
       go_simp
       (try with_reducible rfl)
      (try simp only [Act.put, qd, qe, qf])
      refine' wpAnyH_take (i := 5) (oi := ?oir104) (v := ?vr104) ?hir104 (by kernel_rfl) (by kernel_rfl) (by kernel_rfl) ?hQr104 ?hyr104 hS ?restr104
      case hir104 =>
       simp only [qa, qb, qc]
       exact rfl
      case hQr104 => exact fun _ _ _ h => h
      case hyr104 =>
       refine Or.inl ⟨by rfl, ?_⟩
       intro u hSw
       have eo := hSw
       have ko0 := eo.cell 0 _ rfl
       have ko1 := eo.cell 1 _ rfl
       have ko2 := eo.cell 2 _ rfl
       have ko3 := eo.cell 3 _ rfl
       have ko4 := eo.cell 4 _ rfl
       have ko5 := eo.cell 5 _ rfl
       have ko6 := eo.cell 6 _ rfl
       have ko7 := eo.cell 7 _ rfl
       have ko8 := eo.cell 8 _ rfl
       have mo := eo.lt
       clear eo
       go_simp
       (try with_reducible rfl)
      (try simp only [Act.put, qd, qe, qf])
      refine wpAnyH_ready (rs := [3, 4]) (by kernel_rfl) (by simp) ?_
      refine' AllReadyH.cons (o := ?oor105_0) ?hor105_0 (fun K hK => ?str105_0) (AllReadyH.cons (o := ?oor105_1) ?hor105_1 (fun K hK => ?str105_1) AllReadyH.nil)
      case hor105_0 =>
       simp only [qa, qb, qc]
       exact rfl
      case hor105_1 =>
       simp only [qa, qb, qc]
       exact rfl
      case str105_0 =>
       have fr := Dr.f9
       have fa := Da.f9
       have fo := Do.f9
       have fR := R.f
       go_simp
       clear fr fa fo fR
       refine hK.out _ _ ?_ (fun hS => ?_)
       · exact Do
       clear hK K
       (try simp only [Act.put, qd, qe, qf])
       refine wpAnyH_ready (rs := [4]) (by kernel_rfl) (by simp) ?_
       refine' AllReadyH.cons (o := ?oor106) ?hor106 (fun K hK => ?str106) AllReadyH.nil
       case hor106 =>
        simp only [qa, qb, qc]
        exact rfl
       have fr := Dr.f9
       have fa := Da.f9
       have fo := Do.f9
       have fR := R.f
       go_simp
       clear fr fa fo fR
       refine hK.out _ _ ?_ (fun hS => ?_)
       · exact Do
       clear hK K
       (try simp only [Act.put, qd, qe, qf])
       refine wpAnyH_ready (rs := [6]) (by kernel_rfl) (by simp) ?_
       refine' AllReadyH.cons (o := ?oor107) ?hor107 (fun K hK => ?str107) AllReadyH.nil
       case hor107 =>
        simp only [qa, qb, qc]
        exact rfl
       go_simp
       go_at_call 31
       refine (chain_w base _ _ n2 x x2 HST.out.2.1 R.pos _ R.net).mono ?_
       rintro e w7 ⟨rfl, hN, hg⟩
       have Dr := grown_at hg Dr (fun e2 => by have e3 := Option.some.inj e2; omega)
       have Da := grown_at hg Da (fun e2 => by have e3 := Option.some.inj e2; omega)
       have Do := grown_at hg Do (fun e2 => by have e3 := Option.some.inj e2; omega)
       have R := R.rows hg (Rx.joinN_length _ _ _) hN
       have P := P.grown hg
       clear hN hg
       have fr := Dr.f9
       have fa := Da.f9
       have fo := Do.f9
       have fR := R.f
       clear fr fa fo fR
       refine hK.out _ _ ?_ (fun hS => ?_)
       · exact Do
       clear hK K
       (try simp only [Act.put, qd, qe, qf])
       refine wpAnyH_ready (rs := [7]) (by kernel_rfl) (by simp) ?_
       refine' AllReadyH.cons (o := ?oor108) ?hor108 (fun K hK => ?str108) AllReadyH.nil
       case hor108 =>
        simp only [qa, qb, qc]
        exact rfl
       have fr := Dr.f9
       have fa := Da.f9
       have fo := Do.f9
       have fR := R.f
       go_simp
       clear fr fa fo fR
       have Dr := (Dr.fars9 ba (by omega) (.int .u64 (word ((seqP x x2).first) 0)) (.int .u64 (word ((seqP x x2).first) 1)) (.int .u64 (word ((seqP x x2).first) 2)) (.int .u64 (word ((seqP x x2).first) 3)) (.int .u64 (word ((seqP x x2).last) 0)) (.int .u64 (word ((seqP x x2).last) 1)) (.int .u64 (word ((seqP x x2).last) 2)) (.int .u64 (word ((seqP x x2).last) 3)) (.bool (seqP x x2).none))
       have Da := (Da.puts9 (.int .u64 (word ((seqP x x2).first) 0)) (.int .u64 (word ((seqP x x2).first) 1)) (.int .u64 (word ((seqP x x2).first) 2)) (.int .u64 (word ((seqP x x2).first) 3)) (.int .u64 (word ((seqP x x2).last) 0)) (.int .u64 (word ((seqP x x2).last) 1)) (.int .u64 (word ((seqP x x2).last) 2)) (.int .u64 (word ((seqP x x2).last) 3)) (.bool (seqP x x2).none))
       have Do := (Do.fars9 ba (by omega) (.int .u64 (word ((seqP x x2).first) 0)) (.int .u64 (word ((seqP x x2).first) 1)) (.int .u64 (word ((seqP x x2).first) 2)) (.int .u64 (word ((seqP x x2).first) 3)) (.int .u64 (word ((seqP x x2).last) 0)) (.int .u64 (word ((seqP x x2).last) 1)) (.int .u64 (word ((seqP x x2).last) 2)) (.int .u64 (word ((seqP x x2).last) 3)) (.bool (seqP x x2).none))
       have R := (R.fars9 ba (by omega) (by omega) (by omega) (.int .u64 (word ((seqP x x2).first) 0)) (.int .u64 (word ((seqP x x2).first) 1)) (.int .u64 (word ((seqP x x2).first) 2)) (.int .u64 (word ((seqP x x2).first) 3)) (.int .u64 (word ((seqP x x2).last) 0)) (.int .u64 (word ((seqP x x2).last) 1)) (.int .u64 (word ((seqP x x2).last) 2)) (.int .u64 (word ((seqP x x2).last) 3)) (.bool (seqP x x2).none))
       have P := (P.sets9 ba (by omega) (.int .u64 (word ((seqP x x2).first) 0)) (.int .u64 (word ((seqP x x2).first) 1)) (.int .u64 (word ((seqP x x2).first) 2)) (.int .u64 (word ((seqP x x2).first) 3)) (.int .u64 (word ((seqP x x2).last) 0)) (.int .u64 (word ((seqP x x2).last) 1)) (.int .u64 (word ((seqP x x2).last) 2)) (.int .u64 (word ((seqP x x2).last) 3)) (.bool (seqP x x2).none))
       refine hK.out _ _ ?_ (fun hS => ?_)
       · exact Do
       clear hK K
       (try simp only [Act.put, qd, qe, qf])
       refine wpAnyH_done (by kernel_rfl) ?_ _
       clear hS
       have hM2 := place_rd R
       have hz3 := Da.lt
       have hM1 := HM.out
       go_wp2
       go_roundw
       case rel => exact ⟨seqP x x2, er2, j2, _, _, Rx.joinN x.last x2.first n2, rfl, HST.out.1, by omega, by omega, hz3, Da, Dr, R, P⟩
       case measure =>
        have h := HST.out.2.2
        have hjl2 := R.kl
        simp only [brM, hM1, hM2, RowKit.intOf]
        rcases h with ⟨h1, h2⟩ | ⟨h1, h2⟩
        ·
         simp [h1]; omega
        ·
         simp [h1]; omega
      case str105_1 =>
       have fr := Dr.f9
       have fa := Da.f9
       have fo := Do.f9
       have fR := R.f
       go_simp
       clear fr fa fo fR
       refine hK.out _ _ ?_ (fun hS => ?_)
       · exact Do
       clear hK K
       (try simp only [Act.put, qd, qe, qf])
       refine wpAnyH_ready (rs := [3]) (by kernel_rfl) (by simp) ?_
       refine' AllReadyH.cons (o := ?oor110) ?hor110 (fun K hK => ?str110) AllReadyH.nil
       case hor110 =>
        simp only [qa, qb, qc]
        exact rfl
       have fr := Dr.f9
       have fa := Da.f9
       have fo := Do.f9
       have fR := R.f
       go_simp
       clear fr fa fo fR
       refine hK.out _ _ ?_ (fun hS => ?_)
       · exact Do
       clear hK K
       (try simp only [Act.put, qd, qe, qf])
       refine wpAnyH_ready (rs := [6]) (by kernel_rfl) (by simp) ?_
       refine' AllReadyH.cons (o := ?oor111) ?hor111 (fun K hK => ?str111) AllReadyH.nil
       case hor111 =>
        simp only [qa, qb, qc]
        exact rfl
       go_simp
       go_at_call 31
       refine (chain_w base _ _ n2 x x2 HST.out.2.1 R.pos _ R.net).mono ?_
       rintro e w8 ⟨rfl, hN, hg⟩
       have Dr := grown_at hg Dr (fun e2 => by have e3 := Option.some.inj e2; omega)
       have Da := grown_at hg Da (fun e2 => by have e3 := Option.some.inj e2; omega)
       have Do := grown_at hg Do (fun e2 => by have e3 := Option.some.inj e2; omega)
       have R := R.rows hg (Rx.joinN_length _ _ _) hN
       have P := P.grown hg
       clear hN hg
       have fr := Dr.f9
       have fa := Da.f9
       have fo := Do.f9
       have fR := R.f
       clear fr fa fo fR
       refine hK.out _ _ ?_ (fun hS => ?_)
       · exact Do
       clear hK K
       (try simp only [Act.put, qd, qe, qf])
       refine wpAnyH_ready (rs := [7]) (by kernel_rfl) (by simp) ?_
       refine' AllReadyH.cons (o := ?oor112) ?hor112 (fun K hK => ?str112) AllReadyH.nil
       case hor112 =>
        simp only [qa, qb, qc]
        exact rfl
       have fr := Dr.f9
       have fa := Da.f9
       have fo := Do.f9
       have fR := R.f
       go_simp
       clear fr fa fo fR
       have Dr := (Dr.fars9 ba (by omega) (.int .u64 (word ((seqP x x2).first) 0)) (.int .u64 (word ((seqP x x2).first) 1)) (.int .u64 (word ((seqP x x2).first) 2)) (.int .u64 (word ((seqP x x2).first) 3)) (.int .u64 (word ((seqP x x2).last) 0)) (.int .u64 (word ((seqP x x2).last) 1)) (.int .u64 (word ((seqP x x2).last) 2)) (.int .u64 (word ((seqP x x2).last) 3)) (.bool (seqP x x2).none))
       have Da := (Da.puts9 (.int .u64 (word ((seqP x x2).first) 0)) (.int .u64 (word ((seqP x x2).first) 1)) (.int .u64 (word ((seqP x x2).first) 2)) (.int .u64 (word ((seqP x x2).first) 3)) (.int .u64 (word ((seqP x x2).last) 0)) (.int .u64 (word ((seqP x x2).last) 1)) (.int .u64 (word ((seqP x x2).last) 2)) (.int .u64 (word ((seqP x x2).last) 3)) (.bool (seqP x x2).none))
       have Do := (Do.fars9 ba (by omega) (.int .u64 (word ((seqP x x2).first) 0)) (.int .u64 (word ((seqP x x2).first) 1)) (.int .u64 (word ((seqP x x2).first) 2)) (.int .u64 (word ((seqP x x2).first) 3)) (.int .u64 (word ((seqP x x2).last) 0)) (.int .u64 (word ((seqP x x2).last) 1)) (.int .u64 (word ((seqP x x2).last) 2)) (.int .u64 (word ((seqP x x2).last) 3)) (.bool (seqP x x2).none))
       have R := (R.fars9 ba (by omega) (by omega) (by omega) (.int .u64 (word ((seqP x x2).first) 0)) (.int .u64 (word ((seqP x x2).first) 1)) (.int .u64 (word ((seqP x x2).first) 2)) (.int .u64 (word ((seqP x x2).first) 3)) (.int .u64 (word ((seqP x x2).last) 0)) (.int .u64 (word ((seqP x x2).last) 1)) (.int .u64 (word ((seqP x x2).last) 2)) (.int .u64 (word ((seqP x x2).last) 3)) (.bool (seqP x x2).none))
       have P := (P.sets9 ba (by omega) (.int .u64 (word ((seqP x x2).first) 0)) (.int .u64 (word ((seqP x x2).first) 1)) (.int .u64 (word ((seqP x x2).first) 2)) (.int .u64 (word ((seqP x x2).first) 3)) (.int .u64 (word ((seqP x x2).last) 0)) (.int .u64 (word ((seqP x x2).last) 1)) (.int .u64 (word ((seqP x x2).last) 2)) (.int .u64 (word ((seqP x x2).last) 3)) (.bool (seqP x x2).none))
       refine hK.out _ _ ?_ (fun hS => ?_)
       · exact Do
       clear hK K
       (try simp only [Act.put, qd, qe, qf])
       refine wpAnyH_done (by kernel_rfl) ?_ _
       clear hS
       have hM2 := place_rd R
       have hz3 := Da.lt
       have hM1 := HM.out
       go_wp2
       go_roundw
       case rel => exact ⟨seqP x x2, er2, j2, _, _, Rx.joinN x.last x2.first n2, rfl, HST.out.1, by omega, by omega, hz3, Da, Dr, R, P⟩
       case measure =>
        have h := HST.out.2.2
        have hjl2 := R.kl
        simp only [brM, hM1, hM2, RowKit.intOf]
        rcases h with ⟨h1, h2⟩ | ⟨h1, h2⟩
        ·
         simp [h1]; omega
        ·
         simp [h1]; omega
  ·
   have hne : ((er : Int) == 0) = false := by rw [beq_eq_false_iff_ne]; omega
   have hov : PSt n T x (er : Int) j n1 := by rw [hT]; exact ⟨rfl, rfl, hlen⟩
   have HOV := Lib.hid hov
   clear hov hT hsz
   go_upto_region 2 with (fail)
   have Dr : At ((wr).drew) (w.heap.size) [.int .u64 0, .int .u64 0, .int .u64 0, .int .u64 0, .int .u64 0, .int .u64 0, .int .u64 0, .int .u64 0, .bool false] := Dr.drew
   have Da : At ((wr).drew) (ba) [.int .u64 (word (x.first) 0), .int .u64 (word (x.first) 1), .int .u64 (word (x.first) 2), .int .u64 (word (x.first) 3), .int .u64 (word (x.last) 0), .int .u64 (word (x.last) 1), .int .u64 (word (x.last) 2), .int .u64 (word (x.last) 3), .bool x.none] := Da.drew
   have R := R.drew
   have P := P.drew
   refine wp_region_held_drew (S := fun u => True) (by kernel_rfl) ?_ (fun hS => ?_)
   ·
    exact trivial
   generalize (wr).drew = v1 at *
   refine' wpAnyH_take (i := 0) (oi := ?oir114) (v := ?vr114) ?hir114 (by kernel_rfl) (by kernel_rfl) (by kernel_rfl) ?hQr114 ?hyr114 hS ?restr114
   case hir114 =>
    simp only [qa, qb, qc]
    exact rfl
   case hQr114 => exact fun _ _ _ h => h
   case hyr114 =>
    refine Or.inl ⟨by rfl, ?_⟩
    intro u hSw
    go_simp
    (try with_reducible rfl)
   (try simp only [Act.put, qd, qe, qf])
   refine' wpAnyH_take (i := 1) (oi := ?oir115) (v := ?vr115) ?hir115 (by kernel_rfl) (by kernel_rfl) (by kernel_rfl) ?hQr115 ?hyr115 hS ?restr115
   case hir115 =>
    simp only [qa, qb, qc]
    exact rfl
   case hQr115 => exact fun _ _ _ h => h
   case hyr115 =>
    refine Or.inl ⟨by rfl, ?_⟩
    intro u hSw
    go_simp
    (try with_reducible rfl)
   (try simp only [Act.put, qd, qe, qf])
   refine' wpAnyH_take (i := 2) (oi := ?oir116) (v := ?vr116) ?hir116 (by kernel_rfl) (by kernel_rfl) (by kernel_rfl) ?hQr116 ?hyr116 hS ?restr116
   case hir116 =>
    simp only [qa, qb, qc]
    exact rfl
   case hQr116 => exact fun _ _ _ h => h
   case hyr116 =>
    refine Or.inl ⟨by rfl, ?_⟩
    intro u hSw
    go_simp
    (try with_reducible rfl)
   (try simp only [Act.put, qd, qe, qf])
   refine' wpAnyH_take (i := 3) (oi := ?oir117) (v := undef) ?hir117 (by kernel_rfl) (by kernel_rfl) (by kernel_rfl) ?hQr117 ?hyr117 hS ?restr117
   case hir117 =>
    simp only [qa, qb, qc]
    exact rfl
   case hQr117 => exact fun _ _ _ h => h
   case hyr117 => exact Or.inr ⟨by rfl, rfl⟩
   (try simp only [Act.put, qd, qe, qf])
   refine' wpAnyH_take (i := 4) (oi := ?oir118) (v := undef) ?hir118 (by kernel_rfl) (by kernel_rfl) (by kernel_rfl) ?hQr118 ?hyr118 hS ?restr118
   case hir118 =>
    simp only [qa, qb, qc]
    exact rfl
   case hQr118 => exact fun _ _ _ h => h
   case hyr118 => exact Or.inr ⟨by rfl, rfl⟩
   (try simp only [Act.put, qd, qe, qf])
   refine' wpAnyH_take (i := 5) (oi := ?oir119) (v := undef) ?hir119 (by kernel_rfl) (by kernel_rfl) (by kernel_rfl) ?hQr119 ?hyr119 hS ?restr119
   case hir119 =>
    simp only [qa, qb, qc]
    exact rfl
   case hQr119 => exact fun _ _ _ h => h
   case hyr119 => exact Or.inr ⟨by rfl, rfl⟩
   (try simp only [Act.put, qd, qe, qf])
   refine' wpAnyH_take (i := 6) (oi := ?oir120) (v := undef) ?hir120 (by kernel_rfl) (by kernel_rfl) (by kernel_rfl) ?hQr120 ?hyr120 hS ?restr120
   case hir120 =>
    simp only [qa, qb, qc]
    exact rfl
   case hQr120 => exact fun _ _ _ h => h
   case hyr120 => exact Or.inr ⟨by rfl, rfl⟩
   (try simp only [Act.put, qd, qe, qf])
   refine' wpAnyH_take (i := 7) (oi := ?oir121) (v := undef) ?hir121 (by kernel_rfl) (by kernel_rfl) (by kernel_rfl) ?hQr121 ?hyr121 hS ?restr121
   case hir121 =>
    simp only [qa, qb, qc]
    exact rfl
   case hQr121 => exact fun _ _ _ h => h
   case hyr121 => exact Or.inr ⟨by rfl, rfl⟩
   (try simp only [Act.put, qd, qe, qf])
   refine' wpAnyH_take (i := 8) (oi := ?oir122) (v := undef) ?hir122 (by kernel_rfl) (by kernel_rfl) (by kernel_rfl) ?hQr122 ?hyr122 hS ?restr122
   case hir122 =>
    simp only [qa, qb, qc]
    exact rfl
   case hQr122 => exact fun _ _ _ h => h
   case hyr122 => exact Or.inr ⟨by rfl, rfl⟩
   (try simp only [Act.put, qd, qe, qf])
   refine' wpAnyH_take (i := 9) (oi := ?oir123) (v := undef) ?hir123 (by kernel_rfl) (by kernel_rfl) (by kernel_rfl) ?hQr123 ?hyr123 hS ?restr123
   case hir123 =>
    simp only [qa, qb, qc]
    exact rfl
   case hQr123 => exact fun _ _ _ h => h
   case hyr123 => exact Or.inr ⟨by rfl, rfl⟩
   (try simp only [Act.put, qd, qe, qf])
   refine' wpAnyH_take (i := 10) (oi := ?oir124) (v := undef) ?hir124 (by kernel_rfl) (by kernel_rfl) (by kernel_rfl) ?hQr124 ?hyr124 hS ?restr124
   case hir124 =>
    simp only [qa, qb, qc]
    exact rfl
   case hQr124 => exact fun _ _ _ h => h
   case hyr124 => exact Or.inr ⟨by rfl, rfl⟩
   (try simp only [Act.put, qd, qe, qf])
   refine' wpAnyH_take (i := 11) (oi := ?oir125) (v := undef) ?hir125 (by kernel_rfl) (by kernel_rfl) (by kernel_rfl) ?hQr125 ?hyr125 hS ?restr125
   case hir125 =>
    simp only [qa, qb, qc]
    exact rfl
   case hQr125 => exact fun _ _ _ h => h
   case hyr125 => exact Or.inr ⟨by rfl, rfl⟩
   (try simp only [Act.put, qd, qe, qf])
   refine' wpAnyH_take (i := 12) (oi := ?oir126) (v := undef) ?hir126 (by kernel_rfl) (by kernel_rfl) (by kernel_rfl) ?hQr126 ?hyr126 hS ?restr126
   case hir126 =>
    simp only [qa, qb, qc]
    exact rfl
   case hQr126 => exact fun _ _ _ h => h
   case hyr126 => exact Or.inr ⟨by rfl, rfl⟩
   (try simp only [Act.put, qd, qe, qf])
   refine' wpAnyH_take (i := 13) (oi := ?oir127) (v := ?vr127) ?hir127 (by kernel_rfl) (by kernel_rfl) (by kernel_rfl) ?hQr127 ?hyr127 hS ?restr127
   case hir127 =>
    simp only [qa, qb, qc]
    exact rfl
   case hQr127 => exact fun _ _ _ h => h
   case hyr127 =>
    refine Or.inl ⟨by rfl, ?_⟩
    intro u hSw
    go_simp
    (try with_reducible rfl)
   (try simp only [Act.put, qd, qe, qf])
   refine' wpAnyH_take (i := 14) (oi := ?oir128) (v := ?vr128) ?hir128 (by kernel_rfl) (by kernel_rfl) (by kernel_rfl) ?hQr128 ?hyr128 hS ?restr128
   case hir128 =>
    simp only [qa, qb, qc]
    exact rfl
   case hQr128 => exact fun _ _ _ h => h
   case hyr128 =>
    refine Or.inl ⟨by rfl, ?_⟩
    intro u hSw
    go_simp
    (try with_reducible rfl)
   (try simp only [Act.put, qd, qe, qf])
   refine' wpAnyH_take (i := 15) (oi := ?oir129) (v := undef) ?hir129 (by kernel_rfl) (by kernel_rfl) (by kernel_rfl) ?hQr129 ?hyr129 hS ?restr129
   case hir129 =>
    simp only [qa, qb, qc]
    exact rfl
   case hQr129 => exact fun _ _ _ h => h
   case hyr129 => exact Or.inr ⟨by rfl, rfl⟩
   (try simp only [Act.put, qd, qe, qf])
   refine' wpAnyH_take (i := 16) (oi := ?oir130) (v := undef) ?hir130 (by kernel_rfl) (by kernel_rfl) (by kernel_rfl) ?hQr130 ?hyr130 hS ?restr130
   case hir130 =>
    simp only [qa, qb, qc]
    exact rfl
   case hQr130 => exact fun _ _ _ h => h
   case hyr130 => exact Or.inr ⟨by rfl, rfl⟩
   (try simp only [Act.put, qd, qe, qf])
   refine' wpAnyH_take (i := 17) (oi := ?oir131) (v := undef) ?hir131 (by kernel_rfl) (by kernel_rfl) (by kernel_rfl) ?hQr131 ?hyr131 hS ?restr131
   case hir131 =>
    simp only [qa, qb, qc]
    exact rfl
   case hQr131 => exact fun _ _ _ h => h
   case hyr131 => exact Or.inr ⟨by rfl, rfl⟩
   (try simp only [Act.put, qd, qe, qf])
   refine' wpAnyH_take (i := 18) (oi := ?oir132) (v := ?vr132) ?hir132 (by kernel_rfl) (by kernel_rfl) (by kernel_rfl) ?hQr132 ?hyr132 hS ?restr132
   case hir132 =>
    simp only [qa, qb, qc]
    exact rfl
   case hQr132 => exact fun _ _ _ h => h
   case hyr132 =>
    refine Or.inl ⟨by rfl, ?_⟩
    intro u hSw
    go_simp
    (try with_reducible rfl)
   (try simp only [Act.put, qd, qe, qf])
   refine' wpAnyH_take (i := 19) (oi := ?oir133) (v := ?vr133) ?hir133 (by kernel_rfl) (by kernel_rfl) (by kernel_rfl) ?hQr133 ?hyr133 hS ?restr133
   case hir133 =>
    simp only [qa, qb, qc]
    exact rfl
   case hQr133 => exact fun _ _ _ h => h
   case hyr133 =>
    refine Or.inl ⟨by rfl, ?_⟩
    intro u hSw
    go_simp
    (try with_reducible rfl)
   (try simp only [Act.put, qd, qe, qf])
   refine' wpAnyH_take (i := 20) (oi := ?oir134) (v := undef) ?hir134 (by kernel_rfl) (by kernel_rfl) (by kernel_rfl) ?hQr134 ?hyr134 hS ?restr134
   case hir134 =>
    simp only [qa, qb, qc]
    exact rfl
   case hQr134 => exact fun _ _ _ h => h
   case hyr134 => exact Or.inr ⟨by rfl, rfl⟩
   (try simp only [Act.put, qd, qe, qf])
   refine' wpAnyH_take (i := 21) (oi := ?oir135) (v := undef) ?hir135 (by kernel_rfl) (by kernel_rfl) (by kernel_rfl) ?hQr135 ?hyr135 hS ?restr135
   case hir135 =>
    simp only [qa, qb, qc]
    exact rfl
   case hQr135 => exact fun _ _ _ h => h
   case hyr135 => exact Or.inr ⟨by rfl, rfl⟩
   (try simp only [Act.put, qd, qe, qf])
   refine' wpAnyH_take (i := 22) (oi := ?oir136) (v := undef) ?hir136 (by kernel_rfl) (by kernel_rfl) (by kernel_rfl) ?hQr136 ?hyr136 hS ?restr136
   case hir136 =>
    simp only [qa, qb, qc]
    exact rfl
   case hQr136 => exact fun _ _ _ h => h
   case hyr136 => exact Or.inr ⟨by rfl, rfl⟩
   (try simp only [Act.put, qd, qe, qf])
   refine' wpAnyH_take (i := 23) (oi := ?oir137) (v := ?vr137) ?hir137 (by kernel_rfl) (by kernel_rfl) (by kernel_rfl) ?hQr137 ?hyr137 hS ?restr137
   case hir137 =>
    simp only [qa, qb, qc]
    exact rfl
   case hQr137 => exact fun _ _ _ h => h
   case hyr137 =>
    refine Or.inl ⟨by rfl, ?_⟩
    intro u hSw
    go_simp
    (try with_reducible rfl)
   (try simp only [Act.put, qd, qe, qf])
   refine wpAnyH_done (by kernel_rfl) ?_ _
   clear hS
   have fr := Dr.f9
   have fa := Da.f9
   have fR := R.f
   go_wp2
   clear fr fa fR
   have Dr := (Dr.puts9 (.int .u64 (word (x.first) 0)) (.int .u64 (word (x.first) 1)) (.int .u64 (word (x.first) 2)) (.int .u64 (word (x.first) 3)) (.int .u64 (word (x.last) 0)) (.int .u64 (word (x.last) 1)) (.int .u64 (word (x.last) 2)) (.int .u64 (word (x.last) 3)) (.bool x.none))
   have Da := (Da.fars9 (w.heap.size) (by omega) (.int .u64 (word (x.first) 0)) (.int .u64 (word (x.first) 1)) (.int .u64 (word (x.first) 2)) (.int .u64 (word (x.first) 3)) (.int .u64 (word (x.last) 0)) (.int .u64 (word (x.last) 1)) (.int .u64 (word (x.last) 2)) (.int .u64 (word (x.last) 3)) (.bool x.none))
   have R := (R.fars9 (w.heap.size) (by omega) (by omega) (by omega) (.int .u64 (word (x.first) 0)) (.int .u64 (word (x.first) 1)) (.int .u64 (word (x.first) 2)) (.int .u64 (word (x.first) 3)) (.int .u64 (word (x.last) 0)) (.int .u64 (word (x.last) 1)) (.int .u64 (word (x.last) 2)) (.int .u64 (word (x.last) 3)) (.bool x.none))
   have P := (P.sets9 (w.heap.size) (by omega) (.int .u64 (word (x.first) 0)) (.int .u64 (word (x.first) 1)) (.int .u64 (word (x.first) 2)) (.int .u64 (word (x.first) 3)) (.int .u64 (word (x.last) 0)) (.int .u64 (word (x.last) 1)) (.int .u64 (word (x.last) 2)) (.int .u64 (word (x.last) 3)) (.bool x.none))
   have fr := Dr.f9
   have fa := Da.f9
   have fR := R.f
   refine bodyPost_ret (v := .tuple #[.agg #[.int .u64 (word (x.first) 0), .int .u64 (word (x.first) 1), .int .u64 (word (x.first) 2), .int .u64 (word (x.first) 3), .int .u64 (word (x.last) 0), .int .u64 (word (x.last) 1), .int .u64 (word (x.last) 2), .int .u64 (word (x.last) 3), .bool x.none], .int .i64 (er : Int)]) (by simp [results, Tryd.results37, go_sem, fr]; try rfl) rfl ?_
   exact ⟨x, (er : Int), _, _, n1, j, rfl, HOV.out, R, P⟩
end Go.Proofs.YtcfdpbbpdnpnnaaDoor
