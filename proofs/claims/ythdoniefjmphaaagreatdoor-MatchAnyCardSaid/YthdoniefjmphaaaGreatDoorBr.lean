/- regex's reader: brackets. -/
import Derived.Test.YthdoniefjmphaaaGreatDoorRange
import Derived.Test.YthdoniefjmphaaaGreatDoorLeaf
namespace Go.Proofs.YthdoniefjmphaaaGreatDoor
open Go Go.Proofs Go.RowKit Go.Shelf
set_option maxRecDepth 100000
attribute [local go_sem] cell_set
def RuSt (res : Rx.Res (Nat × Nat)) (m : Nat) (er : Int) (j : Nat) : Prop := match res with
 | .ok x i => m = Rx.runM x.1 (x.2 + 1 - x.1) ∧ er = 0 ∧ j = i
 | .bad e i => m = 0 ∧ er = (e : Int) ∧ j = i
def RU (base b g : Nat) (w : World) (s : ByteArray) (l : List UInt8) (n : Rx.Nt) (res : Rx.Res (Nat × Nat)) (e : Ending) (w' : World) : Prop :=
 ∃ m er j g1 cap1, e = .returned (.tuple #[.agg #[.int .u64 (word m 0), .int .u64 (word m 1), .int .u64 (word m 2), .int .u64 (word m 3)], .int .i64 er]) ∧ RuSt res m er j ∧ Rd base b g1 cap1 s l j n w' ∧ Kp b g w g1 w'
theorem range_u (base b g cap k : Nat) (s : ByteArray) (l : List UInt8) (n : Rx.Nt) (w : World) (R : Rd base b g cap s l k n w) :
  Calls Tryz.prog 131 #[.pointer (some ⟨b, 0, none⟩)] w (RU base b g w s l n (Rx.rangeF l k)) := by
 refine (range_any base b g cap k s l n w R).mono ?_;intro e w' h;cases hr : Rx.rangeF l k with
 | ok x j =>
  rw [hr] at h;obtain ⟨g1, cap1, he, R1, K1⟩ := h;exact ⟨_, 0, j, g1, cap1, he, ⟨rfl, rfl, rfl⟩, R1, K1⟩
 | bad er j =>
  rw [hr] at h;obtain ⟨g1, cap1, he, R1, K1⟩ := h;refine ⟨0, (er : Int), j, g1, cap1, ?_, ⟨rfl, rfl, rfl⟩, R1, K1⟩;simp only [word_zero]; exact he
def BrSt (l : List UInt8) (T : Rx.Res (List (Nat × Nat))) (m : Nat) (er : Int) (j : Nat) : Prop :=
 (er = 0 ∧ ∃ f acc, m = Rx.maskR acc ∧ m < 2 ^ 256 ∧ T = (if Rx.pk l j = 93 then .ok acc (j + 1) else Rx.itemsF l f j acc) ∧ l.length - j < f) ∨ (∃ e : Nat, er = (e : Int) ∧ (e = 2 ∨ e = 4) ∧ T = .bad e j)
theorem maskR_snoc (acc : List (Nat × Nat)) (r : Nat × Nat) : Rx.maskR (acc ++ [r]) = Rx.maskR acc ||| Rx.runM r.1 (r.2 + 1 - r.1) := by
 unfold Rx.maskR; rw [List.foldl_append]; rfl
theorem br_step {l : List UInt8} {T : Rx.Res (List (Nat × Nat))} {f m m' j j' : Nat} {er : Int} {acc : List (Nat × Nat)} (hj : j ≤ l.length) (hm : m = Rx.maskR acc) (hlt : m < 2 ^ 256) (hT : T = Rx.itemsF l f j acc) (hf : l.length - j < f) (h : RuSt (Rx.rangeF l j) m' er j') :
  BrSt l T (m ||| m') er j' ∧ ((er = 0 ∧ j < j') ∨ (er ≠ 0 ∧ j ≤ j')) := by
 obtain ⟨f, rfl⟩ : ∃ f', f = f' + 1 := ⟨f - 1, by omega⟩;have g := Rx.range_goes hj;unfold Rx.itemsF at hT;cases hr : Rx.rangeF l j with
 | ok x i =>
  rw [hr] at h g hT;obtain ⟨h1, h2, h3⟩ := h;obtain ⟨g1, g2, g3⟩ := g;subst h3;refine ⟨.inl ⟨h2, f, acc ++ [x], by rw [maskR_snoc, hm, h1], ?_, hT, by omega⟩, .inl ⟨h2, g1⟩⟩;rw [h1];exact Nat.or_lt_two_pow hlt (runM_lt _ _ (by omega))
 | bad e i =>
  rw [hr] at h g hT;obtain ⟨h1, h2, h3⟩ := h;obtain ⟨g1, g2, g3⟩ := g;subst h3;exact ⟨.inr ⟨e, h2, g3, hT⟩, .inr ⟨by rcases g3 with e1 | e1 <;> rw [h2, e1] <;> decide, g1⟩⟩
theorem br_start {l : List UInt8} {m k j' : Nat} {er : Int} (hk : k ≤ l.length) (h : RuSt (Rx.rangeF l k) m er j') : BrSt l (Rx.itemsF l (l.length + 1) k []) m er j' := by
 have := (br_step (acc := []) (m := 0) (T := Rx.itemsF l (l.length + 1) k []) hk rfl (Nat.two_pow_pos _) rfl (by omega) h).1
 rwa [Nat.zero_or] at this
def placeOf (w : World) (b : Nat) : Nat := match w.cell? ⟨b, 1, none⟩ with
 | some v => (RowKit.intOf v).toNat
 | none => 0
theorem place_rd {base b g cap k : Nat} {s : ByteArray} {l : List UInt8} {n : Rx.Nt} {w : World} (R : Rd base b g cap s l k n w) : placeOf w b = k := by
 unfold placeOf; rw [R.cells.cell 1 _ rfl]; simp [RowKit.intOf]
def brM (l : List UInt8) (b : Nat) (e : Value) (w : World) : Nat := 2 * (l.length - placeOf w b) + (if RowKit.intOf e = 0 then 1 else 0)
theorem bor_w (a b : Nat) (w : World) :
  Calls Tryz.prog 132 #[.agg #[.int .u64 (word a 0), .int .u64 (word a 1), .int .u64 (word a 2), .int .u64 (word a 3)], .agg #[.int .u64 (word b 0), .int .u64 (word b 1), .int .u64 (word b 2), .int .u64 (word b 3)]] w fun e w' => e = .returned (.agg #[.int .u64 (word (a ||| b) 0), .int .u64 (word (a ||| b) 1), .int .u64 (word (a ||| b) 2), .int .u64 (word (a ||| b) 3)]) ∧ Below w.heap.size w w' := bor_any a b w
theorem bnot_w (m : Nat) (hm : m < 2 ^ 256) (w : World) :
  Calls Tryz.prog 127 #[.agg #[.int .u64 (word m 0), .int .u64 (word m 1), .int .u64 (word m 2), .int .u64 (word m 3)]] w fun e w' => e = .returned (.agg #[.int .u64 (word (Rx.fullM - m) 0), .int .u64 (word (Rx.fullM - m) 1), .int .u64 (word (Rx.fullM - m) 2), .int .u64 (word (Rx.fullM - m) 3)]) ∧ Below w.heap.size w w' := bnot_any m hm w
theorem leaf_w (base b g cap k : Nat) (s : ByteArray) (l : List UInt8) (n : Rx.Nt) (hl : n.length ≤ 90) (m : Nat) (w : World) (R : Rd base b g cap s l k n w) :
  Calls Tryz.prog 126 #[.pointer (some ⟨b, 2, none⟩), .agg #[.int .u64 (word m 0), .int .u64 (word m 1), .int .u64 (word m 2), .int .u64 (word m 3)]] w (GP base b g w s l (pceV (Rx.build (.leaf m) n).1) k (Rx.build (.leaf m) n).2) := leaf_any base b g cap k s l n hl m w R
set_option maxHeartbeats 8000000 in
theorem br_f (base b g cap k : Nat) (s : ByteArray) (l : List UInt8) (n : Rx.Nt) (w : World) (R : Rd base b g cap s l k n w) (h91 : Rx.pk l k = 91) (h94 : Rx.pk l (k + 1) ≠ 94) (hn : n.length ≤ 90) :
  Calls Tryz.prog 125 #[.pointer (some ⟨b, 0, none⟩)] w (PP base b g w s l n (Rx.setF l k)) := by
 have P := Kp.refl b g w;have hl64 := R.ll;obtain ⟨hbs, hgs, hts⟩ := R.lt;have hb1 := R.b1;have hk := Rx.pk_lt (l := l) (k := k) (by omega);have hset : Rx.setF l k = match Rx.itemsF l (l.length + 1) (k + 1) [] with | .bad e j => .bad e j | .ok rs j => .ok (.leaf (Rx.maskB false rs)) j := by
  unfold Rx.setF; rw [if_neg h94, show (Rx.pk l (k + 1) == 94) = false from by rw [beq_eq_false_iff_ne]; exact h94];cases Rx.itemsF l (l.length + 1) (k + 1) [] <;> rfl
 rw [hset];have H94 := Lib.hid h94;clear hset h94 h91;have hb0 := fun m er j (h : RuSt (Rx.rangeF l (k + 1)) m er j) => br_start (l := l) (k := k + 1) (by omega) h
 have HB := Lib.hid hb0;clear hb0;generalize Rx.itemsF l (l.length + 1) (k + 1) [] = T at *;have fR := R.f;go_enter Tryz.func125, Tryz.ntmps125
 go_wp2_with fail
 clear fR;have uG0 := R.lt.2.1;have Dr := At.nwz (w.heap.size) ((w).setCell ⟨b, 1, none⟩ (.int .i64 ((k + 1 : Nat) : Int)));have R := ((R.move (k' := k + 1) (by omega)).alloc zC);have P := ((P.setCell (p := ⟨b, 1, none⟩) (.inr rfl) (.int .i64 ((k + 1 : Nat) : Int))).alloc zC);refine (skip_no base b _ _ (k + 1) s l n _ R 94 H94.out).mono ?_;rintro e w1 ⟨rfl, hb1⟩;have Dr := Dr.below hb1;have R := R.below hb1;have P := P.below hb1;clear hb1;have fr := Dr.f9;have fR := R.f;clear H94;go_wp2_with fail
 clear fr fR;have ltr := Dr.lt;refine (range_u base b _ _ (k + 1) s l n _ R).mono ?_;rintro e w2 ⟨m, er, j, g2, cap2, rfl, hst, R2, K2⟩;have hrow := K2.row;have qr2 : g2 ≠ w.heap.size := by omega
 have Dr := Dr.kp K2 (by omega) (by omega);have P := P.trans K2;have R := R2;clear R2 K2 hrow ltr;have fr := Dr.f9;have fR := R.f;have hst := HB.out _ _ _ hst;clear HB;have HST := Lib.hid hst;clear hst;go_wp2_with fail
 clear fr fR;have ur1 := Dr.lt;have uG1 := R.lt.2.1;have Dm := At.nw (w2) [.int .u64 (word (m) 0), .int .u64 (word (m) 1), .int .u64 (word (m) 2), .int .u64 (word (m) 3)] 103;obtain ⟨Dr, R, P⟩ := (fun o => And.intro (Dr.alloc o) (And.intro (R.alloc o) (P.alloc o))) (.cells #[.int .u64 (word (m) 0), .int .u64 (word (m) 1), .int .u64 (word (m) 2), .int .u64 (word (m) 3)] 103);generalize (w2).alloc (.cells #[.int .u64 (word (m) 0), .int .u64 (word (m) 1), .int .u64 (word (m) 2), .int .u64 (word (m) 3)] 103) = wl at *;have hsep := ur1;have hgm := uG1;generalize w2.heap.size = bm at *;go_loopw [6] (fun e6 wr => ∃ (m : Nat) (er : Int) (j g1 cap1 : Nat), e6 = .int .i64 er ∧ BrSt l T m er j ∧ g1 ≠ bm ∧ g1 ≠ w.heap.size ∧ bm < wr.heap.size ∧ At wr bm [.int .u64 (word (m) 0), .int .u64 (word (m) 1), .int .u64 (word (m) 2), .int .u64 (word (m) 3)] ∧ At wr w.heap.size zL ∧ Rd base b g1 cap1 s l j n wr ∧ Kp b g w g1 wr) (fun e6 wr => brM l b e6 wr)
 case atStart => exact ⟨m, er, j, _, _, rfl, HST.out, by omega, by omega, Dm.lt, Dm, Dr, R, P⟩
 case round =>
  clear Dm Dr R P HST;obtain ⟨m, er, j, g0, cap0, rfl, hst, hq1, hq2, hz, Dm, Dr, R, P⟩ := hrel;have hM := place_rd R;have hjl := R.kl;have hz2 := Dr.lt;rcases hst with ⟨rfl, f, acc, hm, hlt, hT, hf⟩ | ⟨er, rfl, her, hT⟩
  ·
   have HMM := Lib.hid hm;clear hm;by_cases h93 : Rx.pk l j = 93
   ·
    rw [if_pos h93] at hT;have hj := Rx.pk_lt (l := l) (k := j) (by omega);have H93 := Lib.hid h93;clear h93;have fr := Dr.f9;have fm := Dm.f4;have fR := R.f;go_wp2_with fail
    clear fr fm fR;have ltr := Dr.lt;have ltm := Dm.lt;refine (skip_yes base b _ _ j s l n _ R 93 hj H93.out).mono ?_;rintro e w3 ⟨g3, cap3, rfl, R2, K2⟩;have hrow := K2.row;have qr3 : g3 ≠ w.heap.size := by omega
    have qm3 : g3 ≠ bm := by omega
    have Dr := Dr.kp K2 (by omega) (by omega);have Dm := Dm.kp K2 (by omega) (by omega);have P := P.trans K2;have R := R2;clear R2 K2 hrow ltr ltm;have fr := Dr.f9;have fm := Dm.f4;have fR := R.f;go_upto_region 12 with (fail)
    have hM2 : m = Rx.maskB false acc := by rw [HMM.out]; rfl
    subst hT;have HM2 := Lib.hid hM2;clear hM2;clear fr fm fR;have Dr : At ((w3).drew) (w.heap.size) zL := Dr.drew;have Dm : At ((w3).drew) (bm) [.int .u64 (word (m) 0), .int .u64 (word (m) 1), .int .u64 (word (m) 2), .int .u64 (word (m) 3)] := Dm.drew;have R := R.drew;have P := P.drew;refine wp_region_held_drew (S := fun u => At u (bm) [.int .u64 (word (m) 0), .int .u64 (word (m) 1), .int .u64 (word (m) 2), .int .u64 (word (m) 3)]) (by kernel_rfl) ?_ (fun hS => ?_)
    ·
     exact Dm
    generalize (w3).drew = v3 at *;refine tkH 0 hS ?_;refine tkH 1 hS ?_;refine tkH 2 hS ?_;refine tkC 3 hS (fun _ h => h.f4) ?_;refine wpAnyH_ready (rs := [4]) (by kernel_rfl) (by simp) ?_;refine' AllReadyH.cons (o := ?oor5) ?hor5 (fun K hK => ?str5) AllReadyH.nil
    case hor5 =>
     simp only [qa, qb, qc];exact rfl
    go_simp
    go_at_call 126
    have ltr := Dr.lt;have ltm := Dm.lt;refine (leaf_w base b _ _ _ s l n hn (m) _ R).mono ?_;rintro e w5 ⟨g5, cap5, rfl, R2, K2⟩;have hrow := K2.row;have qr5 : g5 ≠ w.heap.size := by omega
    have qm5 : g5 ≠ bm := by omega
    have Dr := Dr.kp K2 (by omega) (by omega);have Dm := Dm.kp K2 (by omega) (by omega);have P := P.trans K2;have R := R2;clear R2 K2 hrow ltr ltm;have fr := Dr.f9;have fm := Dm.f4;have fR := R.f;dsimp only [pceV];clear fr fm fR;refine hK.out _ _ ?_ (fun hS => ?_)
    · exact Dm
    clear hK K
    (try simp only [Act.put, qd, qe, qf])
    refine wpAnyH_ready (rs := [5]) (by kernel_rfl) (by simp) ?_;refine' AllReadyH.cons (o := ?oor6) ?hor6 (fun K hK => ?str6) AllReadyH.nil
    case hor6 =>
     simp only [qa, qb, qc];exact rfl
    have fr := Dr.f9;have fm := Dm.f4;have fR := R.f;go_simp
    clear fr fm fR;obtain ⟨Dr, Dm, R, P⟩ := (fun o0 o1 o2 o3 o4 o5 o6 o7 o8 => And.intro (Dr.puts9 o0 o1 o2 o3 o4 o5 o6 o7 o8) (And.intro (Dm.fars9 (w.heap.size) (by omega) o0 o1 o2 o3 o4 o5 o6 o7 o8) (And.intro (R.fars9 (w.heap.size) (by omega) (by omega) (by omega) o0 o1 o2 o3 o4 o5 o6 o7 o8) (P.sets9 (w.heap.size) (by omega) o0 o1 o2 o3 o4 o5 o6 o7 o8)))) (.int .u64 (word (Rx.build (.leaf (m)) n).1.first 0)) (.int .u64 (word (Rx.build (.leaf (m)) n).1.first 1)) (.int .u64 (word (Rx.build (.leaf (m)) n).1.first 2)) (.int .u64 (word (Rx.build (.leaf (m)) n).1.first 3)) (.int .u64 (word (Rx.build (.leaf (m)) n).1.last 0)) (.int .u64 (word (Rx.build (.leaf (m)) n).1.last 1)) (.int .u64 (word (Rx.build (.leaf (m)) n).1.last 2)) (.int .u64 (word (Rx.build (.leaf (m)) n).1.last 3)) (.bool (Rx.build (.leaf (m)) n).1.none);refine hK.out _ _ ?_ (fun hS => ?_)
    · exact Dm
    clear hK K
    (try simp only [Act.put, qd, qe, qf])
    refine tkH 6 hS ?_;refine wpAnyH_done (by kernel_rfl) ?_ _;clear hS;have fr := Dr.f9;have fm := Dm.f4;have fR := R.f;go_wp2
    refine bodyPost_ret (v := .tuple #[pceV (Rx.build (.leaf (m)) n).1, .int .i64 0]) (by simp [results, Tryz.results125, go_sem, fr]; try rfl) rfl ?_
    (try dsimp only)
    rw [← HM2.out];exact ⟨_, _, rfl, R, P⟩
   ·
    rw [if_neg h93] at hT;have H93 := Lib.hid h93;clear h93;have fr := Dr.f9;have fm := Dm.f4;have fR := R.f;go_wp2_with fail
    clear fr fm fR;refine (skip_no base b _ _ j s l n _ R 93 H93.out).mono ?_;rintro e w3 ⟨rfl, hb3⟩;have Dr := Dr.below hb3;have Dm := Dm.below hb3;have R := R.below hb3;have P := P.below hb3;clear hb3;have fr := Dr.f9;have fm := Dm.f4;have fR := R.f;clear H93;have HSTEP := Lib.hid (fun m2 er2 j2 h => br_step (m' := m2) (er := er2) (j' := j2) hjl HMM.out hlt hT hf h);clear HMM hT hf;go_wp2_with fail
    clear fr fm fR;have ur2 := Dr.lt;have um2 := Dm.lt;have uG2 := R.lt.2.1;have Do := At.nw (w3) [.int .u64 0, .int .u64 0, .int .u64 0, .int .u64 0] 103;obtain ⟨Dr, Dm, R, P⟩ := (fun o => And.intro (Dr.alloc o) (And.intro (Dm.alloc o) (And.intro (R.alloc o) (P.alloc o)))) (.cells #[.int .u64 0, .int .u64 0, .int .u64 0, .int .u64 0] 103);have ltr := Dr.lt;have ltm := Dm.lt;have lto := Do.lt;refine (range_u base b _ _ j s l n _ R).mono ?_;rintro e w4 ⟨m2, er2, j2, g4, cap4, rfl, hst, R2, K2⟩;have hrow := K2.row;have qr4 : g4 ≠ w.heap.size := by omega
    have qm4 : g4 ≠ bm := by omega
    have qo4 : g4 ≠ w3.heap.size := by omega
    have Dr := Dr.kp K2 (by omega) (by omega);have Dm := Dm.kp K2 (by omega) (by omega);have Do := Do.kp K2 (by omega) (by omega);have P := P.trans K2;have R := R2;clear R2 K2 hrow ltr ltm lto;have fr := Dr.f9;have fm := Dm.f4;have fo := Do.f4;have fR := R.f;have hst := HSTEP.out _ _ _ hst;clear HSTEP;have HST := Lib.hid hst;clear hst;go_wp2_with fail
    clear fr fm fo fR;obtain ⟨Dr, Dm, Do, R, P⟩ := (fun o0 o1 o2 o3 => And.intro (Dr.fars4 (w3.heap.size) (by omega) o0 o1 o2 o3) (And.intro (Dm.fars4 (w3.heap.size) (by omega) o0 o1 o2 o3) (And.intro (Do.puts4 o0 o1 o2 o3) (And.intro (R.fars4 (w3.heap.size) (by omega) (by omega) (by omega) o0 o1 o2 o3) (P.sets4 (w3.heap.size) (by omega) o0 o1 o2 o3))))) (.int .u64 (word (m2) 0)) (.int .u64 (word (m2) 1)) (.int .u64 (word (m2) 2)) (.int .u64 (word (m2) 3));refine (bor_w m m2 _).mono ?_;rintro e w5 ⟨rfl, hb5⟩;have Dr := Dr.below hb5;have Dm := Dm.below hb5;have Do := Do.below hb5;have R := R.below hb5;have P := P.below hb5;clear hb5;have fr := Dr.f9;have fm := Dm.f4;have fo := Do.f4;have fR := R.f;generalize m ||| m2 = m3 at *
    go_wp2
    clear fr fm fo fR;obtain ⟨Dr, Dm, Do, R, P⟩ := (fun o0 o1 o2 o3 => And.intro (Dr.fars4 bm (by omega) o0 o1 o2 o3) (And.intro (Dm.puts4 o0 o1 o2 o3) (And.intro (Do.fars4 bm (by omega) o0 o1 o2 o3) (And.intro (R.fars4 bm (by omega) (by omega) (by omega) o0 o1 o2 o3) (P.sets4 bm (by omega) o0 o1 o2 o3))))) (.int .u64 (word (m3) 0)) (.int .u64 (word (m3) 1)) (.int .u64 (word (m3) 2)) (.int .u64 (word (m3) 3));have hM2 := place_rd R;have hz3 := Dm.lt;go_roundw
    case rel => exact ⟨m3, er2, j2, _, _, rfl, HST.out.1, by omega, by omega, hz3, Dm, Dr, R, P⟩
    case measure =>
     have h := HST.out.2;have hjl2 := R.kl;simp only [brM, hM, hM2, RowKit.intOf];rcases h with ⟨h1, h2⟩ | ⟨h1, h2⟩
     ·
      simp [h1]; omega
     ·
      simp [h1]; omega
  ·
   have hne : ((er : Int) == 0) = false := by rw [beq_eq_false_iff_ne]; omega
   have hne2 : ((er : Int) != 0) = true := by rw [bne_iff_ne]; omega
   subst hT
   (try dsimp only)
   have fr := Dr.f9;have fm := Dm.f4;have fR := R.f;go_wp2
   clear fr fm fR;obtain ⟨Dr, Dm, R, P⟩ := (fun o0 o1 o2 o3 o4 o5 o6 o7 o8 => And.intro (Dr.puts9 o0 o1 o2 o3 o4 o5 o6 o7 o8) (And.intro (Dm.fars9 (w.heap.size) (by omega) o0 o1 o2 o3 o4 o5 o6 o7 o8) (And.intro (R.fars9 (w.heap.size) (by omega) (by omega) (by omega) o0 o1 o2 o3 o4 o5 o6 o7 o8) (P.sets9 (w.heap.size) (by omega) o0 o1 o2 o3 o4 o5 o6 o7 o8)))) (.int .u64 0) (.int .u64 0) (.int .u64 0) (.int .u64 0) (.int .u64 0) (.int .u64 0) (.int .u64 0) (.int .u64 0) (.bool false);have fr := Dr.f9;have fm := Dm.f4;have fR := R.f;refine bodyPost_ret (v := .tuple #[.agg #[.int .u64 0, .int .u64 0, .int .u64 0, .int .u64 0, .int .u64 0, .int .u64 0, .int .u64 0, .int .u64 0, .bool false], .int .i64 (er : Int)]) (by simp [results, Tryz.results125, go_sem, fr]; try rfl) rfl ?_;exact ⟨_, _, n, zeroP, by rw [pceV_zero], Nat.le_refl _, R, P⟩
set_option maxHeartbeats 8000000 in
theorem br_t (base b g cap k : Nat) (s : ByteArray) (l : List UInt8) (n : Rx.Nt) (w : World) (R : Rd base b g cap s l k n w) (h91 : Rx.pk l k = 91) (h94 : Rx.pk l (k + 1) = 94) (hn : n.length ≤ 90) :
  Calls Tryz.prog 125 #[.pointer (some ⟨b, 0, none⟩)] w (PP base b g w s l n (Rx.setF l k)) := by
 have P := Kp.refl b g w;have hl64 := R.ll;obtain ⟨hbs, hgs, hts⟩ := R.lt;have hb1 := R.b1;have hk := Rx.pk_lt (l := l) (k := k) (by omega);have hk1 := Rx.pk_lt (l := l) (k := k + 1) (by omega);have hset : Rx.setF l k = match Rx.itemsF l (l.length + 1) (k + 2) [] with | .bad e j => .bad e j | .ok rs j => .ok (.leaf (Rx.maskB true rs)) j := by
  unfold Rx.setF; rw [if_pos h94, show (Rx.pk l (k + 1) == 94) = true from by rw [beq_iff_eq]; exact h94];cases Rx.itemsF l (l.length + 1) (k + 2) [] <;> rfl
 rw [hset];have H94 := Lib.hid h94;clear hset h94 h91;have hb0 := fun m er j (h : RuSt (Rx.rangeF l (k + 2)) m er j) => br_start (l := l) (k := k + 2) (by omega) h
 have HB := Lib.hid hb0;clear hb0;generalize Rx.itemsF l (l.length + 1) (k + 2) [] = T at *;have fR := R.f;go_enter Tryz.func125, Tryz.ntmps125
 go_wp2_with fail
 clear fR;have uG0 := R.lt.2.1;have Dr := At.nwz (w.heap.size) ((w).setCell ⟨b, 1, none⟩ (.int .i64 ((k + 1 : Nat) : Int)));have R := ((R.move (k' := k + 1) (by omega)).alloc zC);have P := ((P.setCell (p := ⟨b, 1, none⟩) (.inr rfl) (.int .i64 ((k + 1 : Nat) : Int))).alloc zC);have ltr := Dr.lt;refine (skip_yes base b _ _ (k + 1) s l n _ R 94 hk1 H94.out).mono ?_;rintro e w1 ⟨g1, cap1, rfl, R2, K2⟩;have hrow := K2.row;have qr1 : g1 ≠ w.heap.size := by omega
 have Dr := Dr.kp K2 (by omega) (by omega);have P := P.trans K2;have R := R2;clear R2 K2 hrow ltr;have fr := Dr.f9;have fR := R.f;clear H94;go_wp2_with fail
 clear fr fR;have ltr := Dr.lt;refine (range_u base b _ _ (k + 2) s l n _ R).mono ?_;rintro e w2 ⟨m, er, j, g2, cap2, rfl, hst, R2, K2⟩;have hrow := K2.row;have qr2 : g2 ≠ w.heap.size := by omega
 have Dr := Dr.kp K2 (by omega) (by omega);have P := P.trans K2;have R := R2;clear R2 K2 hrow ltr;have fr := Dr.f9;have fR := R.f;have hst := HB.out _ _ _ hst;clear HB;have HST := Lib.hid hst;clear hst;go_wp2_with fail
 clear fr fR;have ur1 := Dr.lt;have uG1 := R.lt.2.1;have Dm := At.nw (w2) [.int .u64 (word (m) 0), .int .u64 (word (m) 1), .int .u64 (word (m) 2), .int .u64 (word (m) 3)] 103;obtain ⟨Dr, R, P⟩ := (fun o => And.intro (Dr.alloc o) (And.intro (R.alloc o) (P.alloc o))) (.cells #[.int .u64 (word (m) 0), .int .u64 (word (m) 1), .int .u64 (word (m) 2), .int .u64 (word (m) 3)] 103);generalize (w2).alloc (.cells #[.int .u64 (word (m) 0), .int .u64 (word (m) 1), .int .u64 (word (m) 2), .int .u64 (word (m) 3)] 103) = wl at *;have hsep := ur1;have hgm := uG1;generalize w2.heap.size = bm at *;go_loopw [6] (fun e6 wr => ∃ (m : Nat) (er : Int) (j g1 cap1 : Nat), e6 = .int .i64 er ∧ BrSt l T m er j ∧ g1 ≠ bm ∧ g1 ≠ w.heap.size ∧ bm < wr.heap.size ∧ At wr bm [.int .u64 (word (m) 0), .int .u64 (word (m) 1), .int .u64 (word (m) 2), .int .u64 (word (m) 3)] ∧ At wr w.heap.size zL ∧ Rd base b g1 cap1 s l j n wr ∧ Kp b g w g1 wr) (fun e6 wr => brM l b e6 wr)
 case atStart => exact ⟨m, er, j, _, _, rfl, HST.out, by omega, by omega, Dm.lt, Dm, Dr, R, P⟩
 case round =>
  clear Dm Dr R P HST;obtain ⟨m, er, j, g0, cap0, rfl, hst, hq1, hq2, hz, Dm, Dr, R, P⟩ := hrel;have hM := place_rd R;have hjl := R.kl;have hz2 := Dr.lt;rcases hst with ⟨rfl, f, acc, hm, hlt, hT, hf⟩ | ⟨er, rfl, her, hT⟩
  ·
   have HMM := Lib.hid hm;clear hm;by_cases h93 : Rx.pk l j = 93
   ·
    rw [if_pos h93] at hT;have hj := Rx.pk_lt (l := l) (k := j) (by omega);have H93 := Lib.hid h93;clear h93;have fr := Dr.f9;have fm := Dm.f4;have fR := R.f;go_wp2_with fail
    clear fr fm fR;have ltr := Dr.lt;have ltm := Dm.lt;refine (skip_yes base b _ _ j s l n _ R 93 hj H93.out).mono ?_;rintro e w3 ⟨g3, cap3, rfl, R2, K2⟩;have hrow := K2.row;have qr3 : g3 ≠ w.heap.size := by omega
    have qm3 : g3 ≠ bm := by omega
    have Dr := Dr.kp K2 (by omega) (by omega);have Dm := Dm.kp K2 (by omega) (by omega);have P := P.trans K2;have R := R2;clear R2 K2 hrow ltr ltm;have fr := Dr.f9;have fm := Dm.f4;have fR := R.f;go_wp2_with fail
    clear fr fm fR;refine (bnot_w m hlt _).mono ?_;rintro e w4 ⟨rfl, hb4⟩;have Dr := Dr.below hb4;have Dm := Dm.below hb4;have R := R.below hb4;have P := P.below hb4;clear hb4;have fr := Dr.f9;have fm := Dm.f4;have fR := R.f;generalize hmn : Rx.fullM - m = mn at *;have HMN := Lib.hid hmn;clear hmn;go_upto_region 12 with (fail)
    clear fr fm fR;obtain ⟨Dr, Dm, R, P⟩ := (fun o0 o1 o2 o3 => And.intro (Dr.fars4 bm (by omega) o0 o1 o2 o3) (And.intro (Dm.puts4 o0 o1 o2 o3) (And.intro (R.fars4 bm (by omega) (by omega) (by omega) o0 o1 o2 o3) (P.sets4 bm (by omega) o0 o1 o2 o3)))) (.int .u64 (word (mn) 0)) (.int .u64 (word (mn) 1)) (.int .u64 (word (mn) 2)) (.int .u64 (word (mn) 3));generalize ((((w4).setCell ⟨bm, 0, none⟩ (.int .u64 (word (mn) 0))).setCell ⟨bm, 1, none⟩ (.int .u64 (word (mn) 1))).setCell ⟨bm, 2, none⟩ (.int .u64 (word (mn) 2))).setCell ⟨bm, 3, none⟩ (.int .u64 (word (mn) 3)) = wf at *;have hM2 : mn = Rx.maskB true acc := by rw [← HMN.out, HMM.out]; rfl
    subst hT;have HM2 := Lib.hid hM2;clear hM2;have Dr : At ((wf).drew) (w.heap.size) zL := Dr.drew;have Dm : At ((wf).drew) (bm) [.int .u64 (word (mn) 0), .int .u64 (word (mn) 1), .int .u64 (word (mn) 2), .int .u64 (word (mn) 3)] := Dm.drew;have R := R.drew;have P := P.drew;refine wp_region_held_drew (S := fun u => At u (bm) [.int .u64 (word (mn) 0), .int .u64 (word (mn) 1), .int .u64 (word (mn) 2), .int .u64 (word (mn) 3)]) (by kernel_rfl) ?_ (fun hS => ?_)
    ·
     exact Dm
    generalize (wf).drew = v4 at *;refine tkH 0 hS ?_;refine tkH 1 hS ?_;refine tkH 2 hS ?_;refine tkC 3 hS (fun _ h => h.f4) ?_;refine wpAnyH_ready (rs := [4]) (by kernel_rfl) (by simp) ?_;refine' AllReadyH.cons (o := ?oor13) ?hor13 (fun K hK => ?str13) AllReadyH.nil
    case hor13 =>
     simp only [qa, qb, qc];exact rfl
    go_simp
    go_at_call 126
    have ltr := Dr.lt;have ltm := Dm.lt;refine (leaf_w base b _ _ _ s l n hn (mn) _ R).mono ?_;rintro e w6 ⟨g6, cap6, rfl, R2, K2⟩;have hrow := K2.row;have qr6 : g6 ≠ w.heap.size := by omega
    have qm6 : g6 ≠ bm := by omega
    have Dr := Dr.kp K2 (by omega) (by omega);have Dm := Dm.kp K2 (by omega) (by omega);have P := P.trans K2;have R := R2;clear R2 K2 hrow ltr ltm;have fr := Dr.f9;have fm := Dm.f4;have fR := R.f;dsimp only [pceV];clear fr fm fR;refine hK.out _ _ ?_ (fun hS => ?_)
    · exact Dm
    clear hK K
    (try simp only [Act.put, qd, qe, qf])
    refine wpAnyH_ready (rs := [5]) (by kernel_rfl) (by simp) ?_;refine' AllReadyH.cons (o := ?oor14) ?hor14 (fun K hK => ?str14) AllReadyH.nil
    case hor14 =>
     simp only [qa, qb, qc];exact rfl
    have fr := Dr.f9;have fm := Dm.f4;have fR := R.f;go_simp
    clear fr fm fR;obtain ⟨Dr, Dm, R, P⟩ := (fun o0 o1 o2 o3 o4 o5 o6 o7 o8 => And.intro (Dr.puts9 o0 o1 o2 o3 o4 o5 o6 o7 o8) (And.intro (Dm.fars9 (w.heap.size) (by omega) o0 o1 o2 o3 o4 o5 o6 o7 o8) (And.intro (R.fars9 (w.heap.size) (by omega) (by omega) (by omega) o0 o1 o2 o3 o4 o5 o6 o7 o8) (P.sets9 (w.heap.size) (by omega) o0 o1 o2 o3 o4 o5 o6 o7 o8)))) (.int .u64 (word (Rx.build (.leaf (mn)) n).1.first 0)) (.int .u64 (word (Rx.build (.leaf (mn)) n).1.first 1)) (.int .u64 (word (Rx.build (.leaf (mn)) n).1.first 2)) (.int .u64 (word (Rx.build (.leaf (mn)) n).1.first 3)) (.int .u64 (word (Rx.build (.leaf (mn)) n).1.last 0)) (.int .u64 (word (Rx.build (.leaf (mn)) n).1.last 1)) (.int .u64 (word (Rx.build (.leaf (mn)) n).1.last 2)) (.int .u64 (word (Rx.build (.leaf (mn)) n).1.last 3)) (.bool (Rx.build (.leaf (mn)) n).1.none);refine hK.out _ _ ?_ (fun hS => ?_)
    · exact Dm
    clear hK K
    (try simp only [Act.put, qd, qe, qf])
    refine tkH 6 hS ?_;refine wpAnyH_done (by kernel_rfl) ?_ _;clear hS;have fr := Dr.f9;have fm := Dm.f4;have fR := R.f;go_wp2
    refine bodyPost_ret (v := .tuple #[pceV (Rx.build (.leaf (mn)) n).1, .int .i64 0]) (by simp [results, Tryz.results125, go_sem, fr]; try rfl) rfl ?_
    (try dsimp only)
    rw [← HM2.out];exact ⟨_, _, rfl, R, P⟩
   ·
    rw [if_neg h93] at hT;have H93 := Lib.hid h93;clear h93;have fr := Dr.f9;have fm := Dm.f4;have fR := R.f;go_wp2_with fail
    clear fr fm fR;refine (skip_no base b _ _ j s l n _ R 93 H93.out).mono ?_;rintro e w3 ⟨rfl, hb3⟩;have Dr := Dr.below hb3;have Dm := Dm.below hb3;have R := R.below hb3;have P := P.below hb3;clear hb3;have fr := Dr.f9;have fm := Dm.f4;have fR := R.f;clear H93;have HSTEP := Lib.hid (fun m2 er2 j2 h => br_step (m' := m2) (er := er2) (j' := j2) hjl HMM.out hlt hT hf h);clear HMM hT hf;go_wp2_with fail
    clear fr fm fR;have ur2 := Dr.lt;have um2 := Dm.lt;have uG2 := R.lt.2.1;have Do := At.nw (w3) [.int .u64 0, .int .u64 0, .int .u64 0, .int .u64 0] 103;obtain ⟨Dr, Dm, R, P⟩ := (fun o => And.intro (Dr.alloc o) (And.intro (Dm.alloc o) (And.intro (R.alloc o) (P.alloc o)))) (.cells #[.int .u64 0, .int .u64 0, .int .u64 0, .int .u64 0] 103);have ltr := Dr.lt;have ltm := Dm.lt;have lto := Do.lt;refine (range_u base b _ _ j s l n _ R).mono ?_;rintro e w4 ⟨m2, er2, j2, g4, cap4, rfl, hst, R2, K2⟩;have hrow := K2.row;have qr4 : g4 ≠ w.heap.size := by omega
    have qm4 : g4 ≠ bm := by omega
    have qo4 : g4 ≠ w3.heap.size := by omega
    have Dr := Dr.kp K2 (by omega) (by omega);have Dm := Dm.kp K2 (by omega) (by omega);have Do := Do.kp K2 (by omega) (by omega);have P := P.trans K2;have R := R2;clear R2 K2 hrow ltr ltm lto;have fr := Dr.f9;have fm := Dm.f4;have fo := Do.f4;have fR := R.f;have hst := HSTEP.out _ _ _ hst;clear HSTEP;have HST := Lib.hid hst;clear hst;go_wp2_with fail
    clear fr fm fo fR;obtain ⟨Dr, Dm, Do, R, P⟩ := (fun o0 o1 o2 o3 => And.intro (Dr.fars4 (w3.heap.size) (by omega) o0 o1 o2 o3) (And.intro (Dm.fars4 (w3.heap.size) (by omega) o0 o1 o2 o3) (And.intro (Do.puts4 o0 o1 o2 o3) (And.intro (R.fars4 (w3.heap.size) (by omega) (by omega) (by omega) o0 o1 o2 o3) (P.sets4 (w3.heap.size) (by omega) o0 o1 o2 o3))))) (.int .u64 (word (m2) 0)) (.int .u64 (word (m2) 1)) (.int .u64 (word (m2) 2)) (.int .u64 (word (m2) 3));refine (bor_w m m2 _).mono ?_;rintro e w5 ⟨rfl, hb5⟩;have Dr := Dr.below hb5;have Dm := Dm.below hb5;have Do := Do.below hb5;have R := R.below hb5;have P := P.below hb5;clear hb5;have fr := Dr.f9;have fm := Dm.f4;have fo := Do.f4;have fR := R.f;generalize m ||| m2 = m3 at *
    go_wp2
    clear fr fm fo fR;obtain ⟨Dr, Dm, Do, R, P⟩ := (fun o0 o1 o2 o3 => And.intro (Dr.fars4 bm (by omega) o0 o1 o2 o3) (And.intro (Dm.puts4 o0 o1 o2 o3) (And.intro (Do.fars4 bm (by omega) o0 o1 o2 o3) (And.intro (R.fars4 bm (by omega) (by omega) (by omega) o0 o1 o2 o3) (P.sets4 bm (by omega) o0 o1 o2 o3))))) (.int .u64 (word (m3) 0)) (.int .u64 (word (m3) 1)) (.int .u64 (word (m3) 2)) (.int .u64 (word (m3) 3));have hM2 := place_rd R;have hz3 := Dm.lt;go_roundw
    case rel => exact ⟨m3, er2, j2, _, _, rfl, HST.out.1, by omega, by omega, hz3, Dm, Dr, R, P⟩
    case measure =>
     have h := HST.out.2;have hjl2 := R.kl;simp only [brM, hM, hM2, RowKit.intOf];rcases h with ⟨h1, h2⟩ | ⟨h1, h2⟩
     ·
      simp [h1]; omega
     ·
      simp [h1]; omega
  ·
   have hne : ((er : Int) == 0) = false := by rw [beq_eq_false_iff_ne]; omega
   have hne2 : ((er : Int) != 0) = true := by rw [bne_iff_ne]; omega
   subst hT
   (try dsimp only)
   have fr := Dr.f9;have fm := Dm.f4;have fR := R.f;go_wp2
   clear fr fm fR;obtain ⟨Dr, Dm, R, P⟩ := (fun o0 o1 o2 o3 o4 o5 o6 o7 o8 => And.intro (Dr.puts9 o0 o1 o2 o3 o4 o5 o6 o7 o8) (And.intro (Dm.fars9 (w.heap.size) (by omega) o0 o1 o2 o3 o4 o5 o6 o7 o8) (And.intro (R.fars9 (w.heap.size) (by omega) (by omega) (by omega) o0 o1 o2 o3 o4 o5 o6 o7 o8) (P.sets9 (w.heap.size) (by omega) o0 o1 o2 o3 o4 o5 o6 o7 o8)))) (.int .u64 0) (.int .u64 0) (.int .u64 0) (.int .u64 0) (.int .u64 0) (.int .u64 0) (.int .u64 0) (.int .u64 0) (.bool false);have fr := Dr.f9;have fm := Dm.f4;have fR := R.f;refine bodyPost_ret (v := .tuple #[.agg #[.int .u64 0, .int .u64 0, .int .u64 0, .int .u64 0, .int .u64 0, .int .u64 0, .int .u64 0, .int .u64 0, .bool false], .int .i64 (er : Int)]) (by simp [results, Tryz.results125, go_sem, fr]; try rfl) rfl ?_;exact ⟨_, _, n, zeroP, by rw [pceV_zero], Nat.le_refl _, R, P⟩
theorem brackets_any (base b g cap k : Nat) (s : ByteArray) (l : List UInt8) (n : Rx.Nt) (w : World) (R : Rd base b g cap s l k n w) (h91 : Rx.pk l k = 91) (hn : n.length ≤ 90) :
  Calls Tryz.prog 125 #[.pointer (some ⟨b, 0, none⟩)] w (PP base b g w s l n (Rx.setF l k)) := by
 by_cases h94 : Rx.pk l (k + 1) = 94
 ·
  exact br_t base b g cap k s l n w R h91 h94 hn
 ·
  exact br_f base b g cap k s l n w R h91 h94 hn
end Go.Proofs.YthdoniefjmphaaaGreatDoor
