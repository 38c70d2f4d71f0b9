/- regex's reader: row. -/
import Derived.Test.YthdoniefjmphaaaGreatDoorPart
namespace Go.Proofs.YthdoniefjmphaaaGreatDoor
open Go Go.Proofs Go.RowKit Go.Shelf
set_option maxRecDepth 100000
attribute [local go_sem] cell_set
def RowOK (base b : Nat) (s : ByteArray) (l : List UInt8) (deep : Int) (at_ : Nat → Rx.Res Rx.Pt) : Prop :=
 ∀ (g cap k : Nat) (n : Rx.Nt) (w : World), Rd base b g cap s l k n w → n.length ≤ k + 1 → Calls Tryz.prog 92 #[.pointer (some ⟨b, 0, none⟩), .int .i64 deep] w (PU base b g w s l n (at_ k))
def RowSt (inner : Nat → Rx.Res Rx.Pt) (l : List UInt8) (T : Rx.Res Rx.Pt) (n : Rx.Nt) (x : Rx.Pce) (er : Int) (j : Nat) (n1 : Rx.Nt) : Prop :=
 (er = 0 ∧ n1.length ≤ j + 1 ∧ ∃ f acc, T = Rx.rowL inner l f j acc ∧ l.length - j < f ∧ x = (Rx.build acc n).1 ∧ n1 = (Rx.build acc n).2) ∨ (∃ e : Nat, er = (e : Int) ∧ (e = 2 ∨ e = 4) ∧ T = .bad e j ∧ n.length ≤ n1.length)
theorem build_eps (p : Rx.Pt) (n : Rx.Nt) : Rx.build (.seq .eps p) n = Rx.build p n := by
 have j0 : ∀ (x : Nat) (m : Rx.Nt), Rx.joinN 0 x m = m := by
  intro x m;unfold Rx.joinN;apply List.ext_getElem?;intro i;rw [List.getElem?_mapIdx];simp
 simp only [Rx.build, j0, Nat.zero_or, if_true, Nat.or_zero, ite_self, Bool.true_and]
theorem row_start {inner : Nat → Rx.Res Rx.Pt} {l : List UInt8} (hi : ∀ k, Rx.pk l k = 40 → Rx.Goes l k (inner k) (Rx.Few k)) {n n1 : Rx.Nt} {x : Rx.Pce} {er : Int} {k j : Nat} (hk : k ≤ l.length) (hn : n.length ≤ k + 1) (h : PSt n (Rx.partF inner l k) x er j n1) : RowSt inner l (Rx.rowF inner l k) n x er j n1 := by
 have g := Rx.part_goes hi hk;unfold Rx.rowF;cases hr : Rx.partF inner l k with
 | ok p i =>
  rw [hr] at h g;obtain ⟨h1, h2, h3, h4⟩ := h;obtain ⟨g1, g2, g3⟩ := g;subst h3;unfold Rx.Few at g3;refine .inl ⟨h2, ?_, l.length + 1, .seq .eps p, rfl, by omega, by rw [build_eps]; exact h1, by rw [build_eps]; exact h4⟩;rw [h4, Rx.build_length]; omega
 | bad e i =>
  rw [hr] at h g;obtain ⟨h1, h2, h3⟩ := h;subst h2;exact .inr ⟨e, h1, g.2.2, rfl, h3⟩
theorem row_step {inner : Nat → Rx.Res Rx.Pt} {l : List UInt8} (hi : ∀ k, Rx.pk l k = 40 → Rx.Goes l k (inner k) (Rx.Few k)) {T : Rx.Res Rx.Pt} {n n1 n2 : Rx.Nt} {x x2 : Rx.Pce} {er2 : Int} {f j j2 : Nat} {acc : Rx.Pt} (hj : j ≤ l.length) (hn1 : n1.length ≤ j + 1) (hT : T = Rx.rowL inner l f j acc) (hf : l.length - j < f) (hx : x = (Rx.build acc n).1) (hn : n1 = (Rx.build acc n).2) (he : Rx.rowEnd l j = false) (h : PSt n1 (Rx.partF inner l j) x2 er2 j2 n2) :
  RowSt inner l T n (seqP x x2) er2 j2 (Rx.joinN x.last x2.first n2) ∧ (∀ i, i < 256 → x.last.testBit i = true → i < n2.length) ∧ ((er2 = 0 ∧ j < j2) ∨ (er2 ≠ 0 ∧ j ≤ j2)) := by
 obtain ⟨f, rfl⟩ : ∃ f', f = f' + 1 := ⟨f - 1, by omega⟩;have g := Rx.part_goes hi hj;have gl := last_lt acc n hx hn;have nl : n.length ≤ n1.length := by rw [hn, Rx.build_length]; omega
 unfold Rx.rowL at hT;rw [if_neg (by rw [he]; simp)] at hT;cases hr : Rx.partF inner l j with
 | ok p i =>
  rw [hr] at h g hT;obtain ⟨h1, h2, h3, h4⟩ := h;obtain ⟨g1, g2, g3⟩ := g;subst h3;unfold Rx.Few at g3;have hl2 : n2.length = n1.length + Rx.leaves p := by rw [h4, Rx.build_length]
  refine ⟨.inl ⟨h2, by rw [Rx.joinN_length]; omega, f, .seq acc p, hT, by omega, ?_, ?_⟩, fun i h0 h5 => by have := gl i h0 h5; omega, .inl ⟨h2, g1⟩⟩
  ·
   rw [hx, h1, hn]; rfl
  ·
   rw [hx, h1, h4, hn]; rfl
 | bad e i =>
  rw [hr] at h g hT;obtain ⟨h1, h2, h3⟩ := h;subst h2;refine ⟨.inr ⟨e, h1, g.2.2, hT, by rw [Rx.joinN_length]; omega⟩, fun i h0 h5 => by have := gl i h0 h5; omega, .inr ⟨?_, g.1⟩⟩;rcases g.2.2 with e1 | e1 <;> rw [h1, e1] <;> decide
theorem row_over {inner : Nat → Rx.Res Rx.Pt} {l : List UInt8} {T : Rx.Res Rx.Pt} {n n1 : Rx.Nt} {x : Rx.Pce} {f j : Nat} {acc : Rx.Pt} (hT : T = Rx.rowL inner l f j acc) (hf : l.length - j < f) (hx : x = (Rx.build acc n).1) (hn : n1 = (Rx.build acc n).2) (he : Rx.rowEnd l j = true) : PSt n T x 0 j n1 := by
 obtain ⟨f, rfl⟩ : ∃ f', f = f' + 1 := ⟨f - 1, by omega⟩;unfold Rx.rowL at hT;rw [if_pos he] at hT;subst hT;exact ⟨hx, rfl, rfl, hn⟩
theorem chain_w (base g cap : Nat) (n : Rx.Nt) (x y : Rx.Pce) (hl : ∀ i, i < 256 → x.last.testBit i = true → i < n.length) (hn : 0 < n.length) (w : World) (N : NetR base w (rowV g n.length cap) n) :
  Calls Tryz.prog 75 #[rowV g n.length cap, .agg #[.int .u64 (word (x.first) 0), .int .u64 (word (x.first) 1), .int .u64 (word (x.first) 2), .int .u64 (word (x.first) 3), .int .u64 (word (x.last) 0), .int .u64 (word (x.last) 1), .int .u64 (word (x.last) 2), .int .u64 (word (x.last) 3), .bool x.none], .agg #[.int .u64 (word (y.first) 0), .int .u64 (word (y.first) 1), .int .u64 (word (y.first) 2), .int .u64 (word (y.first) 3), .int .u64 (word (y.last) 0), .int .u64 (word (y.last) 1), .int .u64 (word (y.last) 2), .int .u64 (word (y.last) 3), .bool y.none]] w fun e w' => e = .returned (.agg #[.int .u64 (word ((seqP x y).first) 0), .int .u64 (word ((seqP x y).first) 1), .int .u64 (word ((seqP x y).first) 2), .int .u64 (word ((seqP x y).first) 3), .int .u64 (word ((seqP x y).last) 0), .int .u64 (word ((seqP x y).last) 1), .int .u64 (word ((seqP x y).last) 2), .int .u64 (word ((seqP x y).last) 3), .bool (seqP x y).none]) ∧ NetR base w' (rowV g n.length cap) (Rx.joinN x.last y.first n) ∧ w.grownBy w' (some g) := chain_any base g cap n x y hl hn w N
set_option maxHeartbeats 8000000 in
theorem row_any (base b : Nat) (s : ByteArray) (l : List UInt8) (deep : Int) (inner : Nat → Rx.Res Rx.Pt) (hi : ∀ k, Rx.pk l k = 40 → Rx.Goes l k (inner k) (Rx.Few k)) (HA : PartOK base b s l deep (Rx.partF inner l)) : RowOK base b s l deep (Rx.rowF inner l) := by
 intro g cap k n w R hn;have P := Kp.refl b g w;have hl64 := R.ll;have hkl := R.kl;obtain ⟨hbs, hgs, hts⟩ := R.lt;have hb1 := R.b1;have hsz : s.size = l.length := by rw [Lib.size_eq, R.txt]
 have HSZ := Lib.hid hsz;have hst0 := fun x er j n1 h => row_start hi (n := n) (x := x) (er := er) (j := j) (n1 := n1) hkl hn h
 have HST0 := Lib.hid hst0;clear hst0 hsz;generalize hT0 : Rx.rowF inner l k = T at *;clear hT0;go_enter Tryz.func92, Tryz.ntmps92
 go_wp2_with fail
 have uG0 := R.lt.2.1;have Dr := At.nwz _ (w) rfl;obtain ⟨R, P⟩ := (fun o => And.intro (R.alloc o) (P.alloc o)) zC;have ltr := Dr.lt;refine (HA _ _ k n _ R hn).mono ?_;rintro e w1 ⟨x, er, g1, cap1, n1, j, rfl, hst, R2, K2⟩;have hrow := K2.row;have qr1 : g1 ≠ w.heap.size := by omega
 have Dr := Dr.kp K2 (by omega) (by omega);have P := P.trans K2;have R := R2;clear R2 K2 hrow ltr;have fr := Dr.f9;have fR := R.f;have hst := HST0.out _ _ _ _ hst;have HST := Lib.hid hst;clear hst HST0;clear fr fR;have fr := Dr.f9;have fR := R.f;go_wp2_with fail
 clear fr fR;have ur1 := Dr.lt;have uG1 := R.lt.2.1;have Da := At.nwp _ (w1) (x.first) (x.last) x.none rfl;obtain ⟨Dr, R, P⟩ := (fun o => And.intro (Dr.alloc o) (And.intro (R.alloc o) (P.alloc o))) (pC (x.first) (x.last) x.none);generalize (w1).alloc (pC (x.first) (x.last) x.none) = wl at *;have hsep := ur1;have hgm := uG1;generalize w1.heap.size = ba at *;go_loopw [7] (fun e7 wr => ∃ (x : Rx.Pce) (er : Int) (j g1 cap1 : Nat) (n1 : Rx.Nt), e7 = .int .i64 er ∧ RowSt inner l T n x er j n1 ∧ g1 ≠ ba ∧ g1 ≠ w.heap.size ∧ ba < wr.heap.size ∧ At wr ba (pL (x.first) (x.last) x.none) ∧ At wr w.heap.size zL ∧ Rd base b g1 cap1 s l j n1 wr ∧ Kp b g w g1 wr) (fun e7 wr => brM l b e7 wr)
 case atStart => exact ⟨x, er, j, _, _, n1, rfl, HST.out, by omega, by omega, Da.lt, Da, Dr, R, P⟩
 case round =>
  clear Da Dr R P HST;obtain ⟨x, er, j, g0, cap0, n1, rfl, hst, hq1, hq2, hz, Da, Dr, R, P⟩ := hrel;have hMM := place_rd R;have HM := Lib.hid hMM;clear hMM;have hjl := R.kl;have hz2 := Dr.lt;have hsz := HSZ.out;rcases hst with ⟨rfl, hnl, f, acc, hT, hf, hx, hn1⟩ | ⟨er, rfl, her, hT, hlen⟩
  ·
   have HX := Lib.hid hx;have HN := Lib.hid hn1;clear hx hn1;by_cases hend : l.length ≤ j
   ·
    have hov := row_over hT hf HX.out HN.out (by unfold Rx.rowEnd; rw [decide_eq_true hend]; rfl);have HOV := Lib.hid hov;have d1 : decide ((j : Int) < (s.size : Int)) = false := decide_eq_false (by omega);have d2 : decide (j < s.size) = false := decide_eq_false (by omega);clear hov hsz hT HX HN;go_upto_region 2 with (fail)
    have Dr : At ((wr).drew) (w.heap.size) zL := Dr.drew;have Da : At ((wr).drew) (ba) (pL (x.first) (x.last) x.none) := Da.drew;have R := R.drew;have P := P.drew;refine wp_region_held_drew (S := fun u => At u b [.string s, .int .i64 (j : Int), rowV g0 n1.length cap0]) (by kernel_rfl) ?_ (fun hS => ?_)
    ·
     exact R.cells
    generalize (wr).drew = v1 at *;refine tkH 0 hS ?_;refine tkH 1 hS ?_;refine tkH 2 hS ?_;refine tkH 3 hS ?_;refine tkH 4 hS ?_;refine tkH 5 hS ?_;refine tkC 6 hS (fun _ h => h.f3) ?_;refine tkH 7 hS ?_;refine tkH 8 hS ?_;refine tkH 9 hS ?_;refine tkC 10 hS (fun _ h => h.f3) ?_;refine tkH 11 hS ?_;refine tkH 12 hS ?_;refine tkH 13 hS ?_;refine tkH 14 hS ?_;refine tkS 15 hS ?_;refine tkS 16 hS ?_;refine tkS 17 hS ?_;refine tkH 18 hS ?_;refine tkH 19 hS ?_;refine tkS 20 hS ?_;refine tkS 21 hS ?_;refine tkS 22 hS ?_;refine tkH 23 hS ?_;refine wpAnyH_done (by kernel_rfl) ?_ _;clear hS;have fr := Dr.f9;have fa := Da.f9;have fR := R.f;go_wp2
    clear fr fa fR;have q9 := fun o0 o1 o2 o3 o4 o5 o6 o7 o8 => And.intro (Dr.puts9 o0 o1 o2 o3 o4 o5 o6 o7 o8) (And.intro (Da.fars9 (w.heap.size) (by omega) o0 o1 o2 o3 o4 o5 o6 o7 o8) (And.intro (R.fars9 (w.heap.size) (by omega) (by omega) (by omega) o0 o1 o2 o3 o4 o5 o6 o7 o8) (P.sets9 (w.heap.size) (by omega) o0 o1 o2 o3 o4 o5 o6 o7 o8)));obtain ⟨Dr, Da, R, P⟩ := app9 q9 (x.first) (x.last) x.none;clear q9;have fr := Dr.f9;have fa := Da.f9;have fR := R.f;refine bodyPost_ret (v := .tuple #[.agg #[.int .u64 (word (x.first) 0), .int .u64 (word (x.first) 1), .int .u64 (word (x.first) 2), .int .u64 (word (x.first) 3), .int .u64 (word (x.last) 0), .int .u64 (word (x.last) 1), .int .u64 (word (x.last) 2), .int .u64 (word (x.last) 3), .bool x.none], .int .i64 0]) (by simp [results, Tryz.results92, go_sem, fr]; try rfl) rfl ?_;exact ⟨x, 0, _, _, n1, j, rfl, HOV.out, R, P⟩
   ·
    have hjlt : j < l.length := by omega
    have d1 : decide ((j : Int) < (s.size : Int)) = true := decide_eq_true (by omega);have d2 : decide (j < s.size) = true := decide_eq_true (by omega);by_cases h124 : Rx.pk l j = 124
    ·
     have hov := row_over hT hf HX.out HN.out (by unfold Rx.rowEnd; rw [show (Rx.pk l j == 124) = true from by rw [beq_iff_eq]; exact h124]; simp);have HOV := Lib.hid hov;have p1 : ((Rx.pk l j : Int) != 124) = false := by rw [h124]; simp
     clear hov hsz hT HX HN h124;go_upto_region 2 with (fail)
     have Dr : At ((wr).drew) (w.heap.size) zL := Dr.drew;have Da : At ((wr).drew) (ba) (pL (x.first) (x.last) x.none) := Da.drew;have R := R.drew;have P := P.drew;refine wp_region_held_drew (S := fun u => At u b [.string s, .int .i64 (j : Int), rowV g0 n1.length cap0]) (by kernel_rfl) ?_ (fun hS => ?_)
     ·
      exact R.cells
     generalize (wr).drew = v1 at *;refine tkH 0 hS ?_;refine tkH 1 hS ?_;refine tkH 2 hS ?_;refine tkH 3 hS ?_;refine tkH 4 hS ?_;refine tkH 5 hS ?_;refine tkC 6 hS (fun _ h => h.f3) ?_;refine tkH 7 hS ?_;refine tkH 8 hS ?_;refine tkH 9 hS ?_;refine tkC 10 hS (fun _ h => h.f3) ?_;refine tkH 11 hS ?_;refine tkH 12 hS ?_;refine tkH 13 hS ?_;refine tkH 14 hS ?_;refine tkH 15 hS ?_;refine wpAnyH_ready (rs := [16]) (by kernel_rfl) (by simp) ?_;refine' AllReadyH.cons (o := ?oor42) ?hor42 (fun K hK => ?str42) AllReadyH.nil
     case hor42 =>
      simp only [qa, qb, qc];exact rfl
     go_simp
     go_at_call 109
     refine (peek_rd R).mono ?_;rintro e w3 ⟨rfl, hb3⟩;have Dr := Dr.below hb3;have Da := Da.below hb3;have R := R.below hb3;have P := P.below hb3;clear hb3;have fr := Dr.f9;have fa := Da.f9;have fR := R.f;clear fr fa fR;refine hK.out _ _ ?_ (fun hS => ?_)
     · exact R.cells
     clear hK K
     (try simp only [Act.put, qd, qe, qf])
     refine tkH 17 hS ?_;refine tkH 18 hS ?_;refine tkH 19 hS ?_;refine tkS 20 hS ?_;refine tkS 21 hS ?_;refine tkS 22 hS ?_;refine tkH 23 hS ?_;refine wpAnyH_done (by kernel_rfl) ?_ _;clear hS;have fr := Dr.f9;have fa := Da.f9;have fR := R.f;go_wp2
     clear fr fa fR;have q9 := fun o0 o1 o2 o3 o4 o5 o6 o7 o8 => And.intro (Dr.puts9 o0 o1 o2 o3 o4 o5 o6 o7 o8) (And.intro (Da.fars9 (w.heap.size) (by omega) o0 o1 o2 o3 o4 o5 o6 o7 o8) (And.intro (R.fars9 (w.heap.size) (by omega) (by omega) (by omega) o0 o1 o2 o3 o4 o5 o6 o7 o8) (P.sets9 (w.heap.size) (by omega) o0 o1 o2 o3 o4 o5 o6 o7 o8)));obtain ⟨Dr, Da, R, P⟩ := app9 q9 (x.first) (x.last) x.none;clear q9;have fr := Dr.f9;have fa := Da.f9;have fR := R.f;refine bodyPost_ret (v := .tuple #[.agg #[.int .u64 (word (x.first) 0), .int .u64 (word (x.first) 1), .int .u64 (word (x.first) 2), .int .u64 (word (x.first) 3), .int .u64 (word (x.last) 0), .int .u64 (word (x.last) 1), .int .u64 (word (x.last) 2), .int .u64 (word (x.last) 3), .bool x.none], .int .i64 0]) (by simp [results, Tryz.results92, go_sem, fr]; try rfl) rfl ?_;exact ⟨x, 0, _, _, n1, j, rfl, HOV.out, R, P⟩
    ·
     by_cases h41 : Rx.pk l j = 41
     ·
      have hov := row_over hT hf HX.out HN.out (by unfold Rx.rowEnd; rw [show (Rx.pk l j == 41) = true from by rw [beq_iff_eq]; exact h41]; simp);have HOV := Lib.hid hov;have p1 : ((Rx.pk l j : Int) != 41) = false := by rw [h41]; simp
      have p0 : ((Rx.pk l j : Int) != 124) = true := by rw [bne_iff_ne]; omega
      clear hov hsz hT HX HN h41 h124;go_upto_region 2 with (fail)
      have Dr : At ((wr).drew) (w.heap.size) zL := Dr.drew;have Da : At ((wr).drew) (ba) (pL (x.first) (x.last) x.none) := Da.drew;have R := R.drew;have P := P.drew;refine wp_region_held_drew (S := fun u => At u b [.string s, .int .i64 (j : Int), rowV g0 n1.length cap0]) (by kernel_rfl) ?_ (fun hS => ?_)
      ·
       exact R.cells
      generalize (wr).drew = v1 at *;refine tkH 0 hS ?_;refine tkH 1 hS ?_;refine tkH 2 hS ?_;refine tkH 3 hS ?_;refine tkH 4 hS ?_;refine tkH 5 hS ?_;refine tkC 6 hS (fun _ h => h.f3) ?_;refine tkH 7 hS ?_;refine tkH 8 hS ?_;refine tkH 9 hS ?_;refine tkC 10 hS (fun _ h => h.f3) ?_;refine tkH 11 hS ?_;refine tkH 12 hS ?_;refine tkH 13 hS ?_;refine tkH 14 hS ?_;refine tkH 15 hS ?_;refine wpAnyH_ready (rs := [16]) (by kernel_rfl) (by simp) ?_;refine' AllReadyH.cons (o := ?oor67) ?hor67 (fun K hK => ?str67) AllReadyH.nil
      case hor67 =>
       simp only [qa, qb, qc];exact rfl
      go_simp
      go_at_call 109
      refine (peek_rd R).mono ?_;rintro e w3 ⟨rfl, hb3⟩;have Dr := Dr.below hb3;have Da := Da.below hb3;have R := R.below hb3;have P := P.below hb3;clear hb3;have fr := Dr.f9;have fa := Da.f9;have fR := R.f;clear fr fa fR;refine hK.out _ _ ?_ (fun hS => ?_)
      · exact R.cells
      clear hK K
      (try simp only [Act.put, qd, qe, qf])
      refine tkH 17 hS ?_;refine tkH 18 hS ?_;refine tkH 19 hS ?_;refine tkH 20 hS ?_;refine wpAnyH_ready (rs := [21]) (by kernel_rfl) (by simp) ?_;refine' AllReadyH.cons (o := ?oor72) ?hor72 (fun K hK => ?str72) AllReadyH.nil
      case hor72 =>
       simp only [qa, qb, qc];exact rfl
      go_simp
      go_at_call 109
      refine (peek_rd R).mono ?_;rintro e w4 ⟨rfl, hb4⟩;have Dr := Dr.below hb4;have Da := Da.below hb4;have R := R.below hb4;have P := P.below hb4;clear hb4;have fr := Dr.f9;have fa := Da.f9;have fR := R.f;clear fr fa fR;refine hK.out _ _ ?_ (fun hS => ?_)
      · exact R.cells
      clear hK K
      (try simp only [Act.put, qd, qe, qf])
      refine tkH 22 hS ?_;refine tkH 23 hS ?_;refine wpAnyH_done (by kernel_rfl) ?_ _;clear hS;have fr := Dr.f9;have fa := Da.f9;have fR := R.f;go_wp2
      clear fr fa fR;have q9 := fun o0 o1 o2 o3 o4 o5 o6 o7 o8 => And.intro (Dr.puts9 o0 o1 o2 o3 o4 o5 o6 o7 o8) (And.intro (Da.fars9 (w.heap.size) (by omega) o0 o1 o2 o3 o4 o5 o6 o7 o8) (And.intro (R.fars9 (w.heap.size) (by omega) (by omega) (by omega) o0 o1 o2 o3 o4 o5 o6 o7 o8) (P.sets9 (w.heap.size) (by omega) o0 o1 o2 o3 o4 o5 o6 o7 o8)));obtain ⟨Dr, Da, R, P⟩ := app9 q9 (x.first) (x.last) x.none;clear q9;have fr := Dr.f9;have fa := Da.f9;have fR := R.f;refine bodyPost_ret (v := .tuple #[.agg #[.int .u64 (word (x.first) 0), .int .u64 (word (x.first) 1), .int .u64 (word (x.first) 2), .int .u64 (word (x.first) 3), .int .u64 (word (x.last) 0), .int .u64 (word (x.last) 1), .int .u64 (word (x.last) 2), .int .u64 (word (x.last) 3), .bool x.none], .int .i64 0]) (by simp [results, Tryz.results92, go_sem, fr]; try rfl) rfl ?_;exact ⟨x, 0, _, _, n1, j, rfl, HOV.out, R, P⟩
     ·
      have hre : Rx.rowEnd l j = false := by unfold Rx.rowEnd; rw [decide_eq_false hend, show (Rx.pk l j == 124) = false from by rw [beq_eq_false_iff_ne]; exact h124, show (Rx.pk l j == 41) = false from by rw [beq_eq_false_iff_ne]; exact h41]; rfl
      have HSTEP := Lib.hid (fun x2 er2 j2 n2 h => row_step hi (x2 := x2) (er2 := er2) (j2 := j2) (n2 := n2) hjl hnl hT hf HX.out HN.out hre h);have p0 : ((Rx.pk l j : Int) != 124) = true := by rw [bne_iff_ne]; omega
      have p1 : ((Rx.pk l j : Int) != 41) = true := by rw [bne_iff_ne]; omega
      clear hre hsz hT HX HN h124 h41 hend;go_upto_region 2 with (fail)
      have Dr : At ((wr).drew) (w.heap.size) zL := Dr.drew;have Da : At ((wr).drew) (ba) (pL (x.first) (x.last) x.none) := Da.drew;have R := R.drew;have P := P.drew;refine wp_region_held_drew (S := fun u => At u b [.string s, .int .i64 (j : Int), rowV g0 n1.length cap0]) (by kernel_rfl) ?_ (fun hS => ?_)
      ·
       exact R.cells
      generalize (wr).drew = v1 at *;refine tkH 0 hS ?_;refine tkH 1 hS ?_;refine tkH 2 hS ?_;refine tkH 3 hS ?_;refine tkH 4 hS ?_;refine tkH 5 hS ?_;refine tkC 6 hS (fun _ h => h.f3) ?_;refine tkH 7 hS ?_;refine tkH 8 hS ?_;refine tkH 9 hS ?_;refine tkC 10 hS (fun _ h => h.f3) ?_;refine tkH 11 hS ?_;refine tkH 12 hS ?_;refine tkH 13 hS ?_;refine tkH 14 hS ?_;refine tkH 15 hS ?_;refine wpAnyH_ready (rs := [16]) (by kernel_rfl) (by simp) ?_;refine' AllReadyH.cons (o := ?oor92) ?hor92 (fun K hK => ?str92) AllReadyH.nil
      case hor92 =>
       simp only [qa, qb, qc];exact rfl
      go_simp
      go_at_call 109
      refine (peek_rd R).mono ?_;rintro e w3 ⟨rfl, hb3⟩;have Dr := Dr.below hb3;have Da := Da.below hb3;have R := R.below hb3;have P := P.below hb3;clear hb3;have fr := Dr.f9;have fa := Da.f9;have fR := R.f;clear fr fa fR;refine hK.out _ _ ?_ (fun hS => ?_)
      · exact R.cells
      clear hK K
      (try simp only [Act.put, qd, qe, qf])
      refine tkH 17 hS ?_;refine tkH 18 hS ?_;refine tkH 19 hS ?_;refine tkH 20 hS ?_;refine wpAnyH_ready (rs := [21]) (by kernel_rfl) (by simp) ?_;refine' AllReadyH.cons (o := ?oor97) ?hor97 (fun K hK => ?str97) AllReadyH.nil
      case hor97 =>
       simp only [qa, qb, qc];exact rfl
      go_simp
      go_at_call 109
      refine (peek_rd R).mono ?_;rintro e w4 ⟨rfl, hb4⟩;have Dr := Dr.below hb4;have Da := Da.below hb4;have R := R.below hb4;have P := P.below hb4;clear hb4;have fr := Dr.f9;have fa := Da.f9;have fR := R.f;clear fr fa fR;refine hK.out _ _ ?_ (fun hS => ?_)
      · exact R.cells
      clear hK K
      (try simp only [Act.put, qd, qe, qf])
      refine tkH 22 hS ?_;refine tkH 23 hS ?_;refine wpAnyH_done (by kernel_rfl) ?_ _;clear hS;have fr := Dr.f9;have fa := Da.f9;have fR := R.f;go_wp2_with fail
      clear fr fa fR;have ur2 := Dr.lt;have ua2 := Da.lt;have uG2 := R.lt.2.1;have Do := At.nwz _ (w4) rfl;obtain ⟨Dr, Da, R, P⟩ := (fun o => And.intro (Dr.alloc o) (And.intro (Da.alloc o) (And.intro (R.alloc o) (P.alloc o)))) zC;have ltr := Dr.lt;have lta := Da.lt;have lto := Do.lt;refine (HA _ _ j n1 _ R hnl).mono ?_;rintro e w5 ⟨x2, er2, g5, cap5, n2, j2, rfl, hst, R2, K2⟩;have hrow := K2.row;have qr5 : g5 ≠ w.heap.size := by omega
      have qa5 : g5 ≠ ba := by omega
      have qo5 : g5 ≠ w4.heap.size := by omega
      have Dr := Dr.kp K2 (by omega) (by omega);have Da := Da.kp K2 (by omega) (by omega);have Do := Do.kp K2 (by omega) (by omega);have P := P.trans K2;have R := R2;clear R2 K2 hrow ltr lta lto;have fr := Dr.f9;have fa := Da.f9;have fo := Do.f9;have fR := R.f;have hst := HSTEP.out _ _ _ _ hst;have HST := Lib.hid hst;clear hst HSTEP;clear fr fa fo fR;have fr := Dr.f9;have fa := Da.f9;have fo := Do.f9;have fR := R.f;go_upto_region 5 with (fail)
      clear fr fa fo fR;have q9 := fun o0 o1 o2 o3 o4 o5 o6 o7 o8 => And.intro (Dr.fars9 (w4.heap.size) (by omega) o0 o1 o2 o3 o4 o5 o6 o7 o8) (And.intro (Da.fars9 (w4.heap.size) (by omega) o0 o1 o2 o3 o4 o5 o6 o7 o8) (And.intro (Do.puts9 o0 o1 o2 o3 o4 o5 o6 o7 o8) (And.intro (R.fars9 (w4.heap.size) (by omega) (by omega) (by omega) o0 o1 o2 o3 o4 o5 o6 o7 o8) (P.sets9 (w4.heap.size) (by omega) o0 o1 o2 o3 o4 o5 o6 o7 o8))));obtain ⟨Dr, Da, Do, R, P⟩ := app9 q9 (x2.first) (x2.last) x2.none;clear q9;generalize (((((((((w5).setCell ⟨w4.heap.size, 0, none⟩ (.int .u64 (word (x2.first) 0))).setCell ⟨w4.heap.size, 1, none⟩ (.int .u64 (word (x2.first) 1))).setCell ⟨w4.heap.size, 2, none⟩ (.int .u64 (word (x2.first) 2))).setCell ⟨w4.heap.size, 3, none⟩ (.int .u64 (word (x2.first) 3))).setCell ⟨w4.heap.size, 4, none⟩ (.int .u64 (word (x2.last) 0))).setCell ⟨w4.heap.size, 5, none⟩ (.int .u64 (word (x2.last) 1))).setCell ⟨w4.heap.size, 6, none⟩ (.int .u64 (word (x2.last) 2))).setCell ⟨w4.heap.size, 7, none⟩ (.int .u64 (word (x2.last) 3))).setCell ⟨w4.heap.size, 8, none⟩ (.bool x2.none) = wo at *;have Dr : At ((wo).drew) (w.heap.size) zL := Dr.drew;have Da : At ((wo).drew) (ba) (pL (x.first) (x.last) x.none) := Da.drew;have Do : At ((wo).drew) (w4.heap.size) (pL (x2.first) (x2.last) x2.none) := Do.drew;have R := R.drew;have P := P.drew;refine wp_region_held_drew (S := fun u => At u (w4.heap.size) (pL (x2.first) (x2.last) x2.none)) (by kernel_rfl) ?_ (fun hS => ?_)
      ·
       exact Do
      generalize (wo).drew = v5 at *;refine tkH 0 hS ?_;refine tkH 1 hS ?_;refine tkH 2 hS ?_;refine tkC 5 hS (fun _ h => h.f9) ?_;refine wpAnyH_ready (rs := [3, 4]) (by kernel_rfl) (by simp) ?_;refine' AllReadyH.cons (o := ?oor105_0) ?hor105_0 (fun K hK => ?str105_0) (AllReadyH.cons (o := ?oor105_1) ?hor105_1 (fun K hK => ?str105_1) AllReadyH.nil)
      case hor105_0 =>
       simp only [qa, qb, qc];exact rfl
      case hor105_1 =>
       simp only [qa, qb, qc];exact rfl
      case str105_0 =>
       have fr := Dr.f9;have fa := Da.f9;have fo := Do.f9;have fR := R.f;go_simp
       clear fr fa fo fR;refine hK.out _ _ ?_ (fun hS => ?_)
       · exact Do
       clear hK K
       (try simp only [Act.put, qd, qe, qf])
       refine wpAnyH_ready (rs := [4]) (by kernel_rfl) (by simp) ?_;refine' AllReadyH.cons (o := ?oor106) ?hor106 (fun K hK => ?str106) AllReadyH.nil
       case hor106 =>
        simp only [qa, qb, qc];exact rfl
       have fr := Dr.f9;have fa := Da.f9;have fo := Do.f9;have fR := R.f;go_simp
       clear fr fa fo fR;refine hK.out _ _ ?_ (fun hS => ?_)
       · exact Do
       clear hK K
       (try simp only [Act.put, qd, qe, qf])
       refine wpAnyH_ready (rs := [6]) (by kernel_rfl) (by simp) ?_;refine' AllReadyH.cons (o := ?oor107) ?hor107 (fun K hK => ?str107) AllReadyH.nil
       case hor107 =>
        simp only [qa, qb, qc];exact rfl
       go_simp
       go_at_call 75
       refine (chain_w base _ _ n2 x x2 HST.out.2.1 R.pos _ R.net).mono ?_;rintro e w7 ⟨rfl, hN, hg⟩;have Dr := grown_at hg Dr (fun e2 => by have e3 := Option.some.inj e2; omega);have Da := grown_at hg Da (fun e2 => by have e3 := Option.some.inj e2; omega);have Do := grown_at hg Do (fun e2 => by have e3 := Option.some.inj e2; omega);have R := R.rows hg (Rx.joinN_length _ _ _) hN;have P := P.grown hg;clear hN hg;have fr := Dr.f9;have fa := Da.f9;have fo := Do.f9;have fR := R.f;clear fr fa fo fR;refine hK.out _ _ ?_ (fun hS => ?_)
       · exact Do
       clear hK K
       (try simp only [Act.put, qd, qe, qf])
       refine wpAnyH_ready (rs := [7]) (by kernel_rfl) (by simp) ?_;refine' AllReadyH.cons (o := ?oor108) ?hor108 (fun K hK => ?str108) AllReadyH.nil
       case hor108 =>
        simp only [qa, qb, qc];exact rfl
       have fr := Dr.f9;have fa := Da.f9;have fo := Do.f9;have fR := R.f;go_simp
       clear fr fa fo fR;obtain ⟨Dr, Da, Do, R, P⟩ := (fun o0 o1 o2 o3 o4 o5 o6 o7 o8 => And.intro (Dr.fars9 ba (by omega) o0 o1 o2 o3 o4 o5 o6 o7 o8) (And.intro (Da.puts9 o0 o1 o2 o3 o4 o5 o6 o7 o8) (And.intro (Do.fars9 ba (by omega) o0 o1 o2 o3 o4 o5 o6 o7 o8) (And.intro (R.fars9 ba (by omega) (by omega) (by omega) o0 o1 o2 o3 o4 o5 o6 o7 o8) (P.sets9 ba (by omega) o0 o1 o2 o3 o4 o5 o6 o7 o8))))) (.int .u64 (word ((seqP x x2).first) 0)) (.int .u64 (word ((seqP x x2).first) 1)) (.int .u64 (word ((seqP x x2).first) 2)) (.int .u64 (word ((seqP x x2).first) 3)) (.int .u64 (word ((seqP x x2).last) 0)) (.int .u64 (word ((seqP x x2).last) 1)) (.int .u64 (word ((seqP x x2).last) 2)) (.int .u64 (word ((seqP x x2).last) 3)) (.bool (seqP x x2).none);refine hK.out _ _ ?_ (fun hS => ?_)
       · exact Do
       clear hK K
       (try simp only [Act.put, qd, qe, qf])
       refine wpAnyH_done (by kernel_rfl) ?_ _;clear hS;have hM2 := place_rd R;have hz3 := Da.lt;have hM1 := HM.out;go_wp2
       go_roundw
       case rel => exact ⟨seqP x x2, er2, j2, _, _, Rx.joinN x.last x2.first n2, rfl, HST.out.1, by omega, by omega, hz3, Da, Dr, R, P⟩
       case measure =>
        have h := HST.out.2.2;have hjl2 := R.kl;simp only [brM, hM1, hM2, RowKit.intOf];rcases h with ⟨h1, h2⟩ | ⟨h1, h2⟩
        ·
         simp [h1]; omega
        ·
         simp [h1]; omega
      case str105_1 =>
       have fr := Dr.f9;have fa := Da.f9;have fo := Do.f9;have fR := R.f;go_simp
       clear fr fa fo fR;refine hK.out _ _ ?_ (fun hS => ?_)
       · exact Do
       clear hK K
       (try simp only [Act.put, qd, qe, qf])
       refine wpAnyH_ready (rs := [3]) (by kernel_rfl) (by simp) ?_;refine' AllReadyH.cons (o := ?oor110) ?hor110 (fun K hK => ?str110) AllReadyH.nil
       case hor110 =>
        simp only [qa, qb, qc];exact rfl
       have fr := Dr.f9;have fa := Da.f9;have fo := Do.f9;have fR := R.f;go_simp
       clear fr fa fo fR;refine hK.out _ _ ?_ (fun hS => ?_)
       · exact Do
       clear hK K
       (try simp only [Act.put, qd, qe, qf])
       refine wpAnyH_ready (rs := [6]) (by kernel_rfl) (by simp) ?_;refine' AllReadyH.cons (o := ?oor111) ?hor111 (fun K hK => ?str111) AllReadyH.nil
       case hor111 =>
        simp only [qa, qb, qc];exact rfl
       go_simp
       go_at_call 75
       refine (chain_w base _ _ n2 x x2 HST.out.2.1 R.pos _ R.net).mono ?_;rintro e w8 ⟨rfl, hN, hg⟩;have Dr := grown_at hg Dr (fun e2 => by have e3 := Option.some.inj e2; omega);have Da := grown_at hg Da (fun e2 => by have e3 := Option.some.inj e2; omega);have Do := grown_at hg Do (fun e2 => by have e3 := Option.some.inj e2; omega);have R := R.rows hg (Rx.joinN_length _ _ _) hN;have P := P.grown hg;clear hN hg;have fr := Dr.f9;have fa := Da.f9;have fo := Do.f9;have fR := R.f;clear fr fa fo fR;refine hK.out _ _ ?_ (fun hS => ?_)
       · exact Do
       clear hK K
       (try simp only [Act.put, qd, qe, qf])
       refine wpAnyH_ready (rs := [7]) (by kernel_rfl) (by simp) ?_;refine' AllReadyH.cons (o := ?oor112) ?hor112 (fun K hK => ?str112) AllReadyH.nil
       case hor112 =>
        simp only [qa, qb, qc];exact rfl
       have fr := Dr.f9;have fa := Da.f9;have fo := Do.f9;have fR := R.f;go_simp
       clear fr fa fo fR;obtain ⟨Dr, Da, Do, R, P⟩ := (fun o0 o1 o2 o3 o4 o5 o6 o7 o8 => And.intro (Dr.fars9 ba (by omega) o0 o1 o2 o3 o4 o5 o6 o7 o8) (And.intro (Da.puts9 o0 o1 o2 o3 o4 o5 o6 o7 o8) (And.intro (Do.fars9 ba (by omega) o0 o1 o2 o3 o4 o5 o6 o7 o8) (And.intro (R.fars9 ba (by omega) (by omega) (by omega) o0 o1 o2 o3 o4 o5 o6 o7 o8) (P.sets9 ba (by omega) o0 o1 o2 o3 o4 o5 o6 o7 o8))))) (.int .u64 (word ((seqP x x2).first) 0)) (.int .u64 (word ((seqP x x2).first) 1)) (.int .u64 (word ((seqP x x2).first) 2)) (.int .u64 (word ((seqP x x2).first) 3)) (.int .u64 (word ((seqP x x2).last) 0)) (.int .u64 (word ((seqP x x2).last) 1)) (.int .u64 (word ((seqP x x2).last) 2)) (.int .u64 (word ((seqP x x2).last) 3)) (.bool (seqP x x2).none);refine hK.out _ _ ?_ (fun hS => ?_)
       · exact Do
       clear hK K
       (try simp only [Act.put, qd, qe, qf])
       refine wpAnyH_done (by kernel_rfl) ?_ _;clear hS;have hM2 := place_rd R;have hz3 := Da.lt;have hM1 := HM.out;go_wp2
       go_roundw
       case rel => exact ⟨seqP x x2, er2, j2, _, _, Rx.joinN x.last x2.first n2, rfl, HST.out.1, by omega, by omega, hz3, Da, Dr, R, P⟩
       case measure =>
        have h := HST.out.2.2;have hjl2 := R.kl;simp only [brM, hM1, hM2, RowKit.intOf];rcases h with ⟨h1, h2⟩ | ⟨h1, h2⟩
        ·
         simp [h1]; omega
        ·
         simp [h1]; omega
  ·
   have hne : ((er : Int) == 0) = false := by rw [beq_eq_false_iff_ne]; omega
   have hov : PSt n T x (er : Int) j n1 := by rw [hT]; exact ⟨rfl, rfl, hlen⟩
   have HOV := Lib.hid hov;clear hov hT hsz;go_upto_region 2 with (fail)
   have Dr : At ((wr).drew) (w.heap.size) zL := Dr.drew;have Da : At ((wr).drew) (ba) (pL (x.first) (x.last) x.none) := Da.drew;have R := R.drew;have P := P.drew;refine wp_region_held_drew (S := fun u => True) (by kernel_rfl) ?_ (fun hS => ?_)
   ·
    exact trivial
   generalize (wr).drew = v1 at *;refine tkH 0 hS ?_;refine tkH 1 hS ?_;refine tkH 2 hS ?_;refine tkS 3 hS ?_;refine tkS 4 hS ?_;refine tkS 5 hS ?_;refine tkS 6 hS ?_;refine tkS 7 hS ?_;refine tkS 8 hS ?_;refine tkS 9 hS ?_;refine tkS 10 hS ?_;refine tkS 11 hS ?_;refine tkS 12 hS ?_;refine tkH 13 hS ?_;refine tkH 14 hS ?_;refine tkS 15 hS ?_;refine tkS 16 hS ?_;refine tkS 17 hS ?_;refine tkH 18 hS ?_;refine tkH 19 hS ?_;refine tkS 20 hS ?_;refine tkS 21 hS ?_;refine tkS 22 hS ?_;refine tkH 23 hS ?_;refine wpAnyH_done (by kernel_rfl) ?_ _;clear hS;have fr := Dr.f9;have fa := Da.f9;have fR := R.f;go_wp2
   clear fr fa fR;have q9 := fun o0 o1 o2 o3 o4 o5 o6 o7 o8 => And.intro (Dr.puts9 o0 o1 o2 o3 o4 o5 o6 o7 o8) (And.intro (Da.fars9 (w.heap.size) (by omega) o0 o1 o2 o3 o4 o5 o6 o7 o8) (And.intro (R.fars9 (w.heap.size) (by omega) (by omega) (by omega) o0 o1 o2 o3 o4 o5 o6 o7 o8) (P.sets9 (w.heap.size) (by omega) o0 o1 o2 o3 o4 o5 o6 o7 o8)));obtain ⟨Dr, Da, R, P⟩ := app9 q9 (x.first) (x.last) x.none;clear q9;have fr := Dr.f9;have fa := Da.f9;have fR := R.f;refine bodyPost_ret (v := .tuple #[.agg #[.int .u64 (word (x.first) 0), .int .u64 (word (x.first) 1), .int .u64 (word (x.first) 2), .int .u64 (word (x.first) 3), .int .u64 (word (x.last) 0), .int .u64 (word (x.last) 1), .int .u64 (word (x.last) 2), .int .u64 (word (x.last) 3), .bool x.none], .int .i64 (er : Int)]) (by simp [results, Tryz.results92, go_sem, fr]; try rfl) rfl ?_;exact ⟨x, (er : Int), _, _, n1, j, rfl, HOV.out, R, P⟩
end Go.Proofs.YthdoniefjmphaaaGreatDoor
