/- regex's reader: atom. -/
import Derived.Test.YthdoniefjmphaaaGreatDoorBr
namespace Go.Proofs.YthdoniefjmphaaaGreatDoor
open Go Go.Proofs Go.RowKit Go.Shelf
set_option maxRecDepth 100000
attribute [local go_sem] cell_set
def PSt (n : Rx.Nt) (r : Rx.Res Rx.Pt) (x : Rx.Pce) (er : Int) (j : Nat) (n1 : Rx.Nt) : Prop := match r with
 | .ok p i => x = (Rx.build p n).1 ∧ er = 0 ∧ j = i ∧ n1 = (Rx.build p n).2
 | .bad e i => er = (e : Int) ∧ j = i ∧ n.length ≤ n1.length
def PU (base b g : Nat) (w : World) (s : ByteArray) (l : List UInt8) (n : Rx.Nt) (r : Rx.Res Rx.Pt) (e : Ending) (w' : World) : Prop :=
 ∃ x er g1 cap1 n1 j, e = .returned (.tuple #[.agg #[.int .u64 (word x.first 0), .int .u64 (word x.first 1), .int .u64 (word x.first 2), .int .u64 (word x.first 3), .int .u64 (word x.last 0), .int .u64 (word x.last 1), .int .u64 (word x.last 2), .int .u64 (word x.last 3), .bool x.none], .int .i64 er]) ∧ PSt n r x er j n1 ∧ Rd base b g1 cap1 s l j n1 w' ∧ Kp b g w g1 w'
theorem pu_of_pp {base b g : Nat} {w : World} {s : ByteArray} {l : List UInt8} {n : Rx.Nt} {r : Rx.Res Rx.Pt} {e : Ending} {w' : World} (h : PP base b g w s l n r e w') : PU base b g w s l n r e w' := by
 cases r with
 | ok p j => obtain ⟨g1, cap1, he, R, K⟩ := h; exact ⟨_, 0, g1, cap1, _, j, he, ⟨rfl, rfl, rfl, rfl⟩, R, K⟩
 | bad er j => obtain ⟨g1, cap1, n1, x, he, hl, R, K⟩ := h; exact ⟨x, _, g1, cap1, n1, j, he, ⟨rfl, rfl, hl⟩, R, K⟩
def InnerOK (base b : Nat) (s : ByteArray) (l : List UInt8) (deep : Int) (inner : Nat → Rx.Res Rx.Pt) : Prop :=
 ∀ (g cap k : Nat) (n : Rx.Nt) (w : World), Rd base b g cap s l k n w → Rx.pk l k = 40 → n.length ≤ k + 1 → Calls Tryz.prog 124 #[.pointer (some ⟨b, 0, none⟩), .int .i64 deep] w (PU base b g w s l n (inner k))
def AtomOK (base b : Nat) (s : ByteArray) (l : List UInt8) (deep : Int) (at_ : Nat → Rx.Res Rx.Pt) : Prop :=
 ∀ (g cap k : Nat) (n : Rx.Nt) (w : World), Rd base b g cap s l k n w → n.length ≤ k + 1 → Calls Tryz.prog 118 #[.pointer (some ⟨b, 0, none⟩), .int .i64 deep] w (PU base b g w s l n (at_ k))
theorem single_out (base b g cap k : Nat) (s : ByteArray) (l : List UInt8) (n : Rx.Nt) (w : World) (R : Rd base b g cap s l k n w) {r : Rx.Res Nat} (h : Rx.singleF Rx.outL l k = r) :
  Calls Tryz.prog 128 #[.pointer (some ⟨b, 0, none⟩), .string ⟨#[40, 41, 91, 93, 124, 42, 43, 63]⟩] w (SP base b g w s l n r) := by
 rw [← h]; exact single_any base b g cap k s l n Rx.outL w R
theorem bnot_zero (w : World) :
  Calls Tryz.prog 127 #[.agg #[.int .u64 0, .int .u64 0, .int .u64 0, .int .u64 0]] w fun e w' => e = .returned (.agg #[.int .u64 (word Rx.fullM 0), .int .u64 (word Rx.fullM 1), .int .u64 (word Rx.fullM 2), .int .u64 (word Rx.fullM 3)]) ∧ Below w.heap.size w w' := by
 have h := bnot_any 0 (Nat.two_pow_pos _) w;rw [setV_zero, Nat.sub_zero] at h;exact h
theorem bwith_zero (x : Nat) (hx : x < 256) (w : World) :
  Calls Tryz.prog 129 #[.agg #[.int .u64 0, .int .u64 0, .int .u64 0, .int .u64 0], .int .u8 (x : Int)] w fun e w' => e = .returned (.agg #[.int .u64 (word (2 ^ x) 0), .int .u64 (word (2 ^ x) 1), .int .u64 (word (2 ^ x) 2), .int .u64 (word (2 ^ x) 3)]) ∧ Below w.heap.size w w' := by
 have h := bwith_any 0 x hx w;rw [setV_zero, bit_zero] at h;exact h
set_option maxHeartbeats 4000000 in
theorem atom_a (base b g cap k : Nat) (s : ByteArray) (l : List UInt8) (n : Rx.Nt) (w : World) (deep : Int) (R : Rd base b g cap s l k n w) (hn : n.length ≤ k + 1) (h : Rx.pk l k = 40) (inner : Nat → Rx.Res Rx.Pt) (HI : InnerOK base b s l deep inner) :
  Calls Tryz.prog 118 #[.pointer (some ⟨b, 0, none⟩), .int .i64 deep] w (PU base b g w s l n (inner k)) := by
 have P := Kp.refl b g w;have hl64 := R.ll;have hkl := R.kl;obtain ⟨hbs, hgs, hts⟩ := R.lt;have hb1 := R.b1;have q40 : ((Rx.pk l k : Int) == 40) = true := by rw [beq_iff_eq]; omega
 have q91 : ((Rx.pk l k : Int) == 91) = false := by rw [beq_eq_false_iff_ne]; omega
 have q46 : ((Rx.pk l k : Int) == 46) = false := by rw [beq_eq_false_iff_ne]; omega
 have HK := Lib.hid h;clear h;go_enter Tryz.func118, Tryz.ntmps118
 go_wp2_with fail
 have uG0 := R.lt.2.1;have Dr := At.nwz _ (w) rfl;obtain ⟨R, P⟩ := (fun o => And.intro (R.alloc o) (P.alloc o)) zC;refine (peek_rd R).mono ?_;rintro e w1 ⟨rfl, hb1⟩;have Dr := Dr.below hb1;have R := R.below hb1;have P := P.below hb1;clear hb1;have fr := Dr.f9;have fR := R.f;go_wp2_with fail
 clear fr fR;have ltr := Dr.lt;refine (HI _ _ k n _ R HK.out hn).mono ?_;rintro e w2 ⟨x, er, g2, cap2, n1, j, rfl, hst, R2, K2⟩;have hrow := K2.row;have qr2 : g2 ≠ w.heap.size := by omega
 have Dr := Dr.kp K2 (by omega) (by omega);have P := P.trans K2;have R := R2;clear R2 K2 hrow ltr;have fr := Dr.f9;have fR := R.f;have HST := Lib.hid hst;clear hst;go_wp2
 clear fr fR;have q9 := fun o0 o1 o2 o3 o4 o5 o6 o7 o8 => And.intro (Dr.puts9 o0 o1 o2 o3 o4 o5 o6 o7 o8) (And.intro (R.fars9 (w.heap.size) (by omega) (by omega) (by omega) o0 o1 o2 o3 o4 o5 o6 o7 o8) (P.sets9 (w.heap.size) (by omega) o0 o1 o2 o3 o4 o5 o6 o7 o8));obtain ⟨Dr, R, P⟩ := app9 q9 (x.first) (x.last) x.none;clear q9;have fr := Dr.f9;have fR := R.f;refine bodyPost_ret (v := .tuple #[.agg #[.int .u64 (word (x.first) 0), .int .u64 (word (x.first) 1), .int .u64 (word (x.first) 2), .int .u64 (word (x.first) 3), .int .u64 (word (x.last) 0), .int .u64 (word (x.last) 1), .int .u64 (word (x.last) 2), .int .u64 (word (x.last) 3), .bool x.none], .int .i64 er]) (by simp [results, Tryz.results118, go_sem, fr]; try rfl) rfl ?_;exact ⟨x, er, _, _, n1, j, rfl, HST.out, R, P⟩
set_option maxHeartbeats 4000000 in
theorem atom_b (base b g cap k : Nat) (s : ByteArray) (l : List UInt8) (n : Rx.Nt) (w : World) (deep : Int) (R : Rd base b g cap s l k n w) (hn : n.length ≤ k + 1) (h : Rx.pk l k = 91) :
  Calls Tryz.prog 118 #[.pointer (some ⟨b, 0, none⟩), .int .i64 deep] w (PU base b g w s l n (Rx.setF l k)) := by
 have P := Kp.refl b g w;have hl64 := R.ll;have hkl := R.kl;obtain ⟨hbs, hgs, hts⟩ := R.lt;have hb1 := R.b1;have q40 : ((Rx.pk l k : Int) == 40) = false := by rw [beq_eq_false_iff_ne]; omega
 have q91 : ((Rx.pk l k : Int) == 91) = true := by rw [beq_iff_eq]; omega
 have q46 : ((Rx.pk l k : Int) == 46) = false := by rw [beq_eq_false_iff_ne]; omega
 have HK := Lib.hid h;clear h;go_enter Tryz.func118, Tryz.ntmps118
 go_wp2_with fail
 have uG0 := R.lt.2.1;have Dr := At.nwz _ (w) rfl;obtain ⟨R, P⟩ := (fun o => And.intro (R.alloc o) (P.alloc o)) zC;refine (peek_rd R).mono ?_;rintro e w1 ⟨rfl, hb1⟩;have Dr := Dr.below hb1;have R := R.below hb1;have P := P.below hb1;clear hb1;have fr := Dr.f9;have fR := R.f;go_wp2_with fail
 clear fr fR;have ltr := Dr.lt;refine ((brackets_any base b _ _ k s l n _ R HK.out (by omega)).mono fun _ _ h => pu_of_pp h).mono ?_;rintro e w2 ⟨x, er, g2, cap2, n1, j, rfl, hst, R2, K2⟩;have hrow := K2.row;have qr2 : g2 ≠ w.heap.size := by omega
 have Dr := Dr.kp K2 (by omega) (by omega);have P := P.trans K2;have R := R2;clear R2 K2 hrow ltr;have fr := Dr.f9;have fR := R.f;have HST := Lib.hid hst;clear hst;go_wp2
 clear fr fR;have q9 := fun o0 o1 o2 o3 o4 o5 o6 o7 o8 => And.intro (Dr.puts9 o0 o1 o2 o3 o4 o5 o6 o7 o8) (And.intro (R.fars9 (w.heap.size) (by omega) (by omega) (by omega) o0 o1 o2 o3 o4 o5 o6 o7 o8) (P.sets9 (w.heap.size) (by omega) o0 o1 o2 o3 o4 o5 o6 o7 o8));obtain ⟨Dr, R, P⟩ := app9 q9 (x.first) (x.last) x.none;clear q9;have fr := Dr.f9;have fR := R.f;refine bodyPost_ret (v := .tuple #[.agg #[.int .u64 (word (x.first) 0), .int .u64 (word (x.first) 1), .int .u64 (word (x.first) 2), .int .u64 (word (x.first) 3), .int .u64 (word (x.last) 0), .int .u64 (word (x.last) 1), .int .u64 (word (x.last) 2), .int .u64 (word (x.last) 3), .bool x.none], .int .i64 er]) (by simp [results, Tryz.results118, go_sem, fr]; try rfl) rfl ?_;exact ⟨x, er, _, _, n1, j, rfl, HST.out, R, P⟩
set_option maxHeartbeats 4000000 in
theorem atom_c (base b g cap k : Nat) (s : ByteArray) (l : List UInt8) (n : Rx.Nt) (w : World) (deep : Int) (R : Rd base b g cap s l k n w) (hn : n.length ≤ k + 1) (h : Rx.pk l k = 46) :
  Calls Tryz.prog 118 #[.pointer (some ⟨b, 0, none⟩), .int .i64 deep] w (PU base b g w s l n (.ok (.leaf Rx.fullM) (k + 1))) := by
 have P := Kp.refl b g w;have hl64 := R.ll;have hkl := R.kl;obtain ⟨hbs, hgs, hts⟩ := R.lt;have hb1 := R.b1;have q40 : ((Rx.pk l k : Int) == 40) = false := by rw [beq_eq_false_iff_ne]; omega
 have q91 : ((Rx.pk l k : Int) == 91) = false := by rw [beq_eq_false_iff_ne]; omega
 have q46 : ((Rx.pk l k : Int) == 46) = true := by rw [beq_iff_eq]; omega
 have hk1 := Rx.pk_lt (l := l) (k := k) (by omega);clear h;go_enter Tryz.func118, Tryz.ntmps118
 go_wp2_with fail
 have uG0 := R.lt.2.1;have Dr := At.nwz _ (w) rfl;obtain ⟨R, P⟩ := (fun o => And.intro (R.alloc o) (P.alloc o)) zC;refine (peek_rd R).mono ?_;rintro e w1 ⟨rfl, hb1⟩;have Dr := Dr.below hb1;have R := R.below hb1;have P := P.below hb1;clear hb1;have fr := Dr.f9;have fR := R.f;clear fr fR;have fr := Dr.f9;have fR := R.f;go_upto_region 8 with (fail)
 clear fr fR;have Dr := (Dr.far (b' := b) (j := 1) (by omega) (.int .i64 ((k + 1 : Nat) : Int)));have R := (R.move (k' := k + 1) (by omega));have P := (P.setCell (p := ⟨b, 1, none⟩) (.inr rfl) (.int .i64 ((k + 1 : Nat) : Int)));have mv : ((k + 1 : Nat) : Int) = (k : Int) + 1 := by simp
 simp only [mv] at Dr R P;clear mv;generalize (w1).setCell ⟨b, 1, none⟩ (.int .i64 ((k : Int) + 1)) = w8 at *;have Dr : At ((w8).drew) (w.heap.size) zL := Dr.drew;have R := R.drew;have P := P.drew;refine wp_region_held_drew (S := fun u => True) (by kernel_rfl) ?_ (fun hS => ?_)
 ·
  exact trivial
 generalize (w8).drew = v1 at *;refine tkH 0 hS ?_;refine tkH 1 hS ?_;refine tkH 2 hS ?_;refine tkH 3 hS ?_;refine wpAnyH_ready (rs := [4]) (by kernel_rfl) (by simp) ?_;refine' AllReadyH.cons (o := ?oor5) ?hor5 (fun K hK => ?str5) AllReadyH.nil
 case hor5 =>
  simp only [qa, qb, qc];exact rfl
 go_simp
 go_at_call 127
 refine (bnot_zero _).mono ?_;rintro e w3 ⟨rfl, hb3⟩;have Dr := Dr.below hb3;have R := R.below hb3;have P := P.below hb3;clear hb3;have fr := Dr.f9;have fR := R.f;clear fr fR;refine hK.out _ _ ?_ (fun hS => ?_)
 · exact trivial
 clear hK K
 (try simp only [Act.put, qd, qe, qf])
 refine wpAnyH_ready (rs := [5]) (by kernel_rfl) (by simp) ?_;refine' AllReadyH.cons (o := ?oor6) ?hor6 (fun K hK => ?str6) AllReadyH.nil
 case hor6 =>
  simp only [qa, qb, qc];exact rfl
 go_simp
 go_at_call 126
 have ltr := Dr.lt;refine (leaf_w base b _ _ _ s l n (by omega) (Rx.fullM) _ R).mono ?_;rintro e w4 ⟨g4, cap4, rfl, R2, K2⟩;have hrow := K2.row;have qr4 : g4 ≠ w.heap.size := by omega
 have Dr := Dr.kp K2 (by omega) (by omega);have P := P.trans K2;have R := R2;clear R2 K2 hrow ltr;have fr := Dr.f9;have fR := R.f;dsimp only [pceV];clear fr fR;refine hK.out _ _ ?_ (fun hS => ?_)
 · exact trivial
 clear hK K
 (try simp only [Act.put, qd, qe, qf])
 refine wpAnyH_ready (rs := [6]) (by kernel_rfl) (by simp) ?_;refine' AllReadyH.cons (o := ?oor7) ?hor7 (fun K hK => ?str7) AllReadyH.nil
 case hor7 =>
  simp only [qa, qb, qc];exact rfl
 have fr := Dr.f9;have fR := R.f;go_simp
 clear fr fR;obtain ⟨Dr, R, P⟩ := (fun o0 o1 o2 o3 o4 o5 o6 o7 o8 => And.intro (Dr.puts9 o0 o1 o2 o3 o4 o5 o6 o7 o8) (And.intro (R.fars9 (w.heap.size) (by omega) (by omega) (by omega) o0 o1 o2 o3 o4 o5 o6 o7 o8) (P.sets9 (w.heap.size) (by omega) o0 o1 o2 o3 o4 o5 o6 o7 o8))) (.int .u64 (word (Rx.build (.leaf (Rx.fullM)) n).1.first 0)) (.int .u64 (word (Rx.build (.leaf (Rx.fullM)) n).1.first 1)) (.int .u64 (word (Rx.build (.leaf (Rx.fullM)) n).1.first 2)) (.int .u64 (word (Rx.build (.leaf (Rx.fullM)) n).1.first 3)) (.int .u64 (word (Rx.build (.leaf (Rx.fullM)) n).1.last 0)) (.int .u64 (word (Rx.build (.leaf (Rx.fullM)) n).1.last 1)) (.int .u64 (word (Rx.build (.leaf (Rx.fullM)) n).1.last 2)) (.int .u64 (word (Rx.build (.leaf (Rx.fullM)) n).1.last 3)) (.bool (Rx.build (.leaf (Rx.fullM)) n).1.none);refine hK.out _ _ ?_ (fun hS => ?_)
 · exact trivial
 clear hK K
 (try simp only [Act.put, qd, qe, qf])
 refine tkH 7 hS ?_;refine wpAnyH_done (by kernel_rfl) ?_ _;clear hS;have fr := Dr.f9;have fR := R.f;go_wp2
 refine bodyPost_ret (v := .tuple #[pceV (Rx.build (.leaf (Rx.fullM)) n).1, .int .i64 0]) (by simp [results, Tryz.results118, go_sem, fr]; try rfl) rfl ?_;exact ⟨_, 0, _, _, _, _, rfl, ⟨rfl, rfl, rfl, rfl⟩, R, P⟩
set_option maxHeartbeats 4000000 in
theorem atom_d (base b g cap k : Nat) (s : ByteArray) (l : List UInt8) (n : Rx.Nt) (w : World) (deep : Int) (R : Rd base b g cap s l k n w) (hn : n.length ≤ k + 1) (h1 : Rx.pk l k ≠ 40) (h2 : Rx.pk l k ≠ 91) (h3 : Rx.pk l k ≠ 46) (er j : Nat) (hs : Rx.singleF Rx.outL l k = .bad er j) (he : er = 2 ∨ er = 4) :
  Calls Tryz.prog 118 #[.pointer (some ⟨b, 0, none⟩), .int .i64 deep] w (PU base b g w s l n (.bad er j)) := by
 have P := Kp.refl b g w;have hl64 := R.ll;have hkl := R.kl;obtain ⟨hbs, hgs, hts⟩ := R.lt;have hb1 := R.b1;have q40 : ((Rx.pk l k : Int) == 40) = false := by rw [beq_eq_false_iff_ne]; omega
 have q91 : ((Rx.pk l k : Int) == 91) = false := by rw [beq_eq_false_iff_ne]; omega
 have q46 : ((Rx.pk l k : Int) == 46) = false := by rw [beq_eq_false_iff_ne]; omega
 have HS := Lib.hid hs;have hne : ((er : Int) != 0) = true := by rw [bne_iff_ne]; omega
 clear hs;go_enter Tryz.func118, Tryz.ntmps118
 go_wp2_with fail
 have uG0 := R.lt.2.1;have Dr := At.nwz _ (w) rfl;obtain ⟨R, P⟩ := (fun o => And.intro (R.alloc o) (P.alloc o)) zC;refine (peek_rd R).mono ?_;rintro e w1 ⟨rfl, hb1⟩;have Dr := Dr.below hb1;have R := R.below hb1;have P := P.below hb1;clear hb1;have fr := Dr.f9;have fR := R.f;go_wp2_with fail
 clear fr fR;have ltr := Dr.lt;refine ((single_out base b _ _ k s l n _ R HS.out).mono fun _ _ h => sp_bad h).mono ?_;rintro e w2 ⟨g2, cap2, rfl, R2, K2⟩;have hrow := K2.row;have qr2 : g2 ≠ w.heap.size := by omega
 have Dr := Dr.kp K2 (by omega) (by omega);have P := P.trans K2;have R := R2;clear R2 K2 hrow ltr;have fr := Dr.f9;have fR := R.f;clear fr fR;have fr := Dr.f9;have fR := R.f;go_wp2
 clear fr fR;obtain ⟨Dr, R, P⟩ := (fun o0 o1 o2 o3 o4 o5 o6 o7 o8 => And.intro (Dr.puts9 o0 o1 o2 o3 o4 o5 o6 o7 o8) (And.intro (R.fars9 (w.heap.size) (by omega) (by omega) (by omega) o0 o1 o2 o3 o4 o5 o6 o7 o8) (P.sets9 (w.heap.size) (by omega) o0 o1 o2 o3 o4 o5 o6 o7 o8))) (.int .u64 0) (.int .u64 0) (.int .u64 0) (.int .u64 0) (.int .u64 0) (.int .u64 0) (.int .u64 0) (.int .u64 0) (.bool false);have fr := Dr.f9;have fR := R.f;refine bodyPost_ret (v := .tuple #[.agg #[.int .u64 0, .int .u64 0, .int .u64 0, .int .u64 0, .int .u64 0, .int .u64 0, .int .u64 0, .int .u64 0, .bool false], .int .i64 (er : Int)]) (by simp [results, Tryz.results118, go_sem, fr]; try rfl) rfl ?_;exact ⟨zeroP, (er : Int), _, _, n, j, by simp only [word_zero], ⟨rfl, rfl, Nat.le_refl _⟩, R, P⟩
set_option maxHeartbeats 4000000 in
theorem atom_e (base b g cap k : Nat) (s : ByteArray) (l : List UInt8) (n : Rx.Nt) (w : World) (deep : Int) (R : Rd base b g cap s l k n w) (hn : n.length ≤ k + 1) (h1 : Rx.pk l k ≠ 40) (h2 : Rx.pk l k ≠ 91) (h3 : Rx.pk l k ≠ 46) (c j : Nat) (hs : Rx.singleF Rx.outL l k = .ok c j) (hc : c < 256) :
  Calls Tryz.prog 118 #[.pointer (some ⟨b, 0, none⟩), .int .i64 deep] w (PU base b g w s l n (.ok (.leaf (2 ^ c)) j)) := by
 have P := Kp.refl b g w;have hl64 := R.ll;have hkl := R.kl;obtain ⟨hbs, hgs, hts⟩ := R.lt;have hb1 := R.b1;have q40 : ((Rx.pk l k : Int) == 40) = false := by rw [beq_eq_false_iff_ne]; omega
 have q91 : ((Rx.pk l k : Int) == 91) = false := by rw [beq_eq_false_iff_ne]; omega
 have q46 : ((Rx.pk l k : Int) == 46) = false := by rw [beq_eq_false_iff_ne]; omega
 have HS := Lib.hid hs;clear hs;go_enter Tryz.func118, Tryz.ntmps118
 go_wp2_with fail
 have uG0 := R.lt.2.1;have Dr := At.nwz _ (w) rfl;obtain ⟨R, P⟩ := (fun o => And.intro (R.alloc o) (P.alloc o)) zC;refine (peek_rd R).mono ?_;rintro e w1 ⟨rfl, hb1⟩;have Dr := Dr.below hb1;have R := R.below hb1;have P := P.below hb1;clear hb1;have fr := Dr.f9;have fR := R.f;go_wp2_with fail
 clear fr fR;have ltr := Dr.lt;refine ((single_out base b _ _ k s l n _ R HS.out).mono fun _ _ h => sp_ok h).mono ?_;rintro e w2 ⟨g2, cap2, rfl, R2, K2⟩;have hrow := K2.row;have qr2 : g2 ≠ w.heap.size := by omega
 have Dr := Dr.kp K2 (by omega) (by omega);have P := P.trans K2;have R := R2;clear R2 K2 hrow ltr;have fr := Dr.f9;have fR := R.f;clear fr fR;have fr := Dr.f9;have fR := R.f;go_upto_region 12 with (fail)
 clear fr fR;have Dr : At ((w2).drew) (w.heap.size) zL := Dr.drew;have R := R.drew;have P := P.drew;refine wp_region_held_drew (S := fun u => True) (by kernel_rfl) ?_ (fun hS => ?_)
 ·
  exact trivial
 generalize (w2).drew = v2 at *;refine tkH 0 hS ?_;refine tkH 1 hS ?_;refine tkH 2 hS ?_;refine tkH 3 hS ?_;refine tkH 4 hS ?_;refine wpAnyH_ready (rs := [5]) (by kernel_rfl) (by simp) ?_;refine' AllReadyH.cons (o := ?oor15) ?hor15 (fun K hK => ?str15) AllReadyH.nil
 case hor15 =>
  simp only [qa, qb, qc];exact rfl
 go_simp
 go_at_call 129
 refine (bwith_zero c hc _).mono ?_;rintro e w4 ⟨rfl, hb4⟩;have Dr := Dr.below hb4;have R := R.below hb4;have P := P.below hb4;clear hb4;have fr := Dr.f9;have fR := R.f;generalize 2 ^ c = q2 at *;clear fr fR;refine hK.out _ _ ?_ (fun hS => ?_)
 · exact trivial
 clear hK K
 (try simp only [Act.put, qd, qe, qf])
 refine wpAnyH_ready (rs := [6]) (by kernel_rfl) (by simp) ?_;refine' AllReadyH.cons (o := ?oor16) ?hor16 (fun K hK => ?str16) AllReadyH.nil
 case hor16 =>
  simp only [qa, qb, qc];exact rfl
 go_simp
 go_at_call 126
 have ltr := Dr.lt;refine (leaf_w base b _ _ _ s l n (by omega) (q2) _ R).mono ?_;rintro e w5 ⟨g5, cap5, rfl, R2, K2⟩;have hrow := K2.row;have qr5 : g5 ≠ w.heap.size := by omega
 have Dr := Dr.kp K2 (by omega) (by omega);have P := P.trans K2;have R := R2;clear R2 K2 hrow ltr;have fr := Dr.f9;have fR := R.f;dsimp only [pceV];clear fr fR;refine hK.out _ _ ?_ (fun hS => ?_)
 · exact trivial
 clear hK K
 (try simp only [Act.put, qd, qe, qf])
 refine wpAnyH_ready (rs := [7]) (by kernel_rfl) (by simp) ?_;refine' AllReadyH.cons (o := ?oor17) ?hor17 (fun K hK => ?str17) AllReadyH.nil
 case hor17 =>
  simp only [qa, qb, qc];exact rfl
 have fr := Dr.f9;have fR := R.f;go_simp
 clear fr fR;obtain ⟨Dr, R, P⟩ := (fun o0 o1 o2 o3 o4 o5 o6 o7 o8 => And.intro (Dr.puts9 o0 o1 o2 o3 o4 o5 o6 o7 o8) (And.intro (R.fars9 (w.heap.size) (by omega) (by omega) (by omega) o0 o1 o2 o3 o4 o5 o6 o7 o8) (P.sets9 (w.heap.size) (by omega) o0 o1 o2 o3 o4 o5 o6 o7 o8))) (.int .u64 (word (Rx.build (.leaf (q2)) n).1.first 0)) (.int .u64 (word (Rx.build (.leaf (q2)) n).1.first 1)) (.int .u64 (word (Rx.build (.leaf (q2)) n).1.first 2)) (.int .u64 (word (Rx.build (.leaf (q2)) n).1.first 3)) (.int .u64 (word (Rx.build (.leaf (q2)) n).1.last 0)) (.int .u64 (word (Rx.build (.leaf (q2)) n).1.last 1)) (.int .u64 (word (Rx.build (.leaf (q2)) n).1.last 2)) (.int .u64 (word (Rx.build (.leaf (q2)) n).1.last 3)) (.bool (Rx.build (.leaf (q2)) n).1.none);refine hK.out _ _ ?_ (fun hS => ?_)
 · exact trivial
 clear hK K
 (try simp only [Act.put, qd, qe, qf])
 refine tkH 8 hS ?_;refine wpAnyH_done (by kernel_rfl) ?_ _;clear hS;have fr := Dr.f9;have fR := R.f;go_wp2
 refine bodyPost_ret (v := .tuple #[pceV (Rx.build (.leaf (q2)) n).1, .int .i64 0]) (by simp [results, Tryz.results118, go_sem, fr]; try rfl) rfl ?_;exact ⟨_, 0, _, _, _, _, rfl, ⟨rfl, rfl, rfl, rfl⟩, R, P⟩
theorem atom_any (base b : Nat) (s : ByteArray) (l : List UInt8) (deep : Int) (inner : Nat → Rx.Res Rx.Pt) (HI : InnerOK base b s l deep inner) : AtomOK base b s l deep (Rx.atomF inner l) := by
 intro g cap k n w R hn;unfold Rx.atomF;by_cases h1 : Rx.pk l k = 40
 ·
  rw [if_pos h1]; exact atom_a base b g cap k s l n w deep R hn h1 inner HI
 ·
  rw [if_neg h1];by_cases h2 : Rx.pk l k = 91
  ·
   rw [if_pos h2]; exact atom_b base b g cap k s l n w deep R hn h2
  ·
   rw [if_neg h2];by_cases h3 : Rx.pk l k = 46
   ·
    rw [if_pos h3]; exact atom_c base b g cap k s l n w deep R hn h3
   ·
    rw [if_neg h3];have gs := Rx.single_goes Rx.outL R.kl;cases hs : Rx.singleF Rx.outL l k with
    | bad er j => rw [hs] at gs; exact atom_d base b g cap k s l n w deep R hn h1 h2 h3 er j hs gs.2.2
    | ok c j => rw [hs] at gs; exact atom_e base b g cap k s l n w deep R hn h1 h2 h3 c j hs (by have := gs.2.2; omega)
end Go.Proofs.YthdoniefjmphaaaGreatDoor
