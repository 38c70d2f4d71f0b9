/- regex's reader: byteRange. -/
import Derived.Test.YthdoniefjmphaaaGreatDoorSkip
import Derived.Deep.DeepCutAuto
namespace Go.Proofs.YthdoniefjmphaaaGreatDoor
open Go Go.Proofs Go.RowKit Go.Shelf
set_option maxRecDepth 100000
attribute [local go_sem] cell_set
theorem single_in (base b g cap k : Nat) (s : ByteArray) (l : List UInt8) (n : Rx.Nt) (w : World) (R : Rd base b g cap s l k n w) {r : Rx.Res Nat} (h : Rx.singleF Rx.inL l k = r) :
  Calls Tryz.prog 128 #[.pointer (some ⟨b, 0, none⟩), .string ⟨#[93, 45, 94]⟩] w (SP base b g w s l n r) := by
 rw [← h]; exact single_any base b g cap k s l n Rx.inL w R
theorem runM_lt : ∀ (m a : Nat), a + m ≤ 256 → Rx.runM a m < 2 ^ 256 := by
 intro m;induction m with
 | zero => intro a _; exact Nat.two_pow_pos 256
 | succ m ih => intro a h; exact Nat.or_lt_two_pow (ih a (by omega)) (Nat.pow_lt_pow_right (by decide) (by omega))
theorem bwith_w (m x : Nat) (hx : x < 256) (w : World) :
  Calls Tryz.prog 129 #[.agg #[.int .u64 (word m 0), .int .u64 (word m 1), .int .u64 (word m 2), .int .u64 (word m 3)], .int .u8 (x : Int)] w fun e w' => e = .returned (.agg #[.int .u64 (word (m ||| 2 ^ x) 0), .int .u64 (word (m ||| 2 ^ x) 1), .int .u64 (word (m ||| 2 ^ x) 2), .int .u64 (word (m ||| 2 ^ x) 3)]) ∧ Below w.heap.size w w' := bwith_any m x hx w
def RP (base b g : Nat) (w : World) (s : ByteArray) (l : List UInt8) (n : Rx.Nt) (r : Rx.Res (Nat × Nat)) (e : Ending) (w' : World) : Prop := match r with
 | .ok x j => GP base b g w s l (.tuple #[setV (Rx.runM x.1 (x.2 + 1 - x.1)), .int .i64 0]) j n e w'
 | .bad er j => GP base b g w s l (.tuple #[.agg #[.int .u64 0, .int .u64 0, .int .u64 0, .int .u64 0], .int .i64 (er : Int)]) j n e w'
theorem sp_ok {base b g : Nat} {w : World} {s : ByteArray} {l : List UInt8} {n : Rx.Nt} {x j : Nat} {e : Ending} {w' : World} (h : SP base b g w s l n (.ok x j) e w') : GP base b g w s l (.tuple #[.int .u8 (x : Int), .int .i64 0]) j n e w' := h
theorem sp_bad {base b g : Nat} {w : World} {s : ByteArray} {l : List UInt8} {n : Rx.Nt} {er j : Nat} {e : Ending} {w' : World} (h : SP base b g w s l n (.bad er j) e w') : GP base b g w s l (.tuple #[.int .u8 0, .int .i64 (er : Int)]) j n e w' := h
set_option maxHeartbeats 4000000 in
theorem range_a (base b g cap k : Nat) (s : ByteArray) (l : List UInt8) (n : Rx.Nt) (w : World) (R : Rd base b g cap s l k n w) (er j : Nat) (h : Rx.singleF Rx.inL l k = .bad er j) (he : er = 2 ∨ er = 4) :
  Calls Tryz.prog 131 #[.pointer (some ⟨b, 0, none⟩)] w (GP base b g w s l (.tuple #[.agg #[.int .u64 0, .int .u64 0, .int .u64 0, .int .u64 0], .int .i64 (er : Int)]) j n) := by
 have P := Kp.refl b g w;have hl64 := R.ll;obtain ⟨hbs, hgs, hts⟩ := R.lt;have hb1 := R.b1;have HS := Lib.hid h;have hne : ((er : Int) != 0) = true := by rw [bne_iff_ne]; omega
 clear h;go_enter Tryz.func131, Tryz.ntmps131
 go_wp2_with fail
 have uG0 := R.lt.2.1;have Dr := At.nw (w) [.int .u64 0, .int .u64 0, .int .u64 0, .int .u64 0] 103;obtain ⟨R, P⟩ := (fun o => And.intro (R.alloc o) (P.alloc o)) (.cells #[.int .u64 0, .int .u64 0, .int .u64 0, .int .u64 0] 103);have ltr := Dr.lt;refine (((single_in base b _ _ (k) s l n _ R HS.out).mono fun _ _ h => sp_bad h)).mono ?_;rintro e w1 ⟨g1, cap1, rfl, R2, K2⟩;have hrow := K2.row;have qr1 : g1 ≠ w.heap.size := by omega
 have Dr := Dr.kp K2 (by omega) (by omega);have P := P.trans K2;have R := R2;clear R2 K2 hrow ltr;have fr := Dr.f4;have fR := R.f;clear HS;clear fr fR;have fr := Dr.f4;have fR := R.f;go_wp2
 clear fr fR;obtain ⟨Dr, R, P⟩ := (fun o0 o1 o2 o3 => And.intro (Dr.puts4 o0 o1 o2 o3) (And.intro (R.fars4 (w.heap.size) (by omega) (by omega) (by omega) o0 o1 o2 o3) (P.sets4 (w.heap.size) (by omega) o0 o1 o2 o3))) (.int .u64 0) (.int .u64 0) (.int .u64 0) (.int .u64 0);have fr := Dr.f4;have fR := R.f;refine bodyPost_ret (v := .tuple #[.agg #[.int .u64 0, .int .u64 0, .int .u64 0, .int .u64 0], .int .i64 (er : Int)]) (by simp [results, Tryz.results131, go_sem, fr]; try rfl) rfl ?_;exact ⟨_, _, rfl, R, P⟩
set_option maxHeartbeats 4000000 in
theorem range_c (base b g cap k : Nat) (s : ByteArray) (l : List UInt8) (n : Rx.Nt) (w : World) (R : Rd base b g cap s l k n w) (a j er i : Nat) (h : Rx.singleF Rx.inL l k = .ok a j) (h45 : Rx.pk l j = 45) (h2 : Rx.singleF Rx.inL l (j + 1) = .bad er i) (he : er = 2 ∨ er = 4) :
  Calls Tryz.prog 131 #[.pointer (some ⟨b, 0, none⟩)] w (GP base b g w s l (.tuple #[.agg #[.int .u64 0, .int .u64 0, .int .u64 0, .int .u64 0], .int .i64 (er : Int)]) i n) := by
 have P := Kp.refl b g w;have hl64 := R.ll;obtain ⟨hbs, hgs, hts⟩ := R.lt;have hb1 := R.b1;have HS := Lib.hid h;have HS2 := Lib.hid h2;have H45 := Lib.hid h45;have hj := Rx.pk_lt (l := l) (k := j) (by omega);clear h h2 h45;have hne : ((er : Int) != 0) = true := by rw [bne_iff_ne]; omega
 have hne2 : ((er : Int) == 0) = false := by rw [beq_eq_false_iff_ne]; omega
 go_enter Tryz.func131, Tryz.ntmps131
 go_wp2_with fail
 have uG0 := R.lt.2.1;have Dr := At.nw (w) [.int .u64 0, .int .u64 0, .int .u64 0, .int .u64 0] 103;obtain ⟨R, P⟩ := (fun o => And.intro (R.alloc o) (P.alloc o)) (.cells #[.int .u64 0, .int .u64 0, .int .u64 0, .int .u64 0] 103);have ltr := Dr.lt;refine (((single_in base b _ _ (k) s l n _ R HS.out).mono fun _ _ h => sp_ok h)).mono ?_;rintro e w1 ⟨g1, cap1, rfl, R2, K2⟩;have hrow := K2.row;have qr1 : g1 ≠ w.heap.size := by omega
 have Dr := Dr.kp K2 (by omega) (by omega);have P := P.trans K2;have R := R2;clear R2 K2 hrow ltr;have fr := Dr.f4;have fR := R.f;clear HS;go_wp2_with fail
 clear fr fR;have ltr := Dr.lt;refine (skip_yes base b _ _ j s l n _ R 45 hj H45.out).mono ?_;rintro e w2 ⟨g2, cap2, rfl, R2, K2⟩;have hrow := K2.row;have qr2 : g2 ≠ w.heap.size := by omega
 have Dr := Dr.kp K2 (by omega) (by omega);have P := P.trans K2;have R := R2;clear R2 K2 hrow ltr;have fr := Dr.f4;have fR := R.f;clear H45;go_wp2_with fail
 clear fr fR;have ltr := Dr.lt;refine (((single_in base b _ _ (j + 1) s l n _ R HS2.out).mono fun _ _ h => sp_bad h)).mono ?_;rintro e w3 ⟨g3, cap3, rfl, R2, K2⟩;have hrow := K2.row;have qr3 : g3 ≠ w.heap.size := by omega
 have Dr := Dr.kp K2 (by omega) (by omega);have P := P.trans K2;have R := R2;clear R2 K2 hrow ltr;have fr := Dr.f4;have fR := R.f;clear HS2;clear fr fR;have fr := Dr.f4;have fR := R.f;go_wp2
 clear fr fR;obtain ⟨Dr, R, P⟩ := (fun o0 o1 o2 o3 => And.intro (Dr.puts4 o0 o1 o2 o3) (And.intro (R.fars4 (w.heap.size) (by omega) (by omega) (by omega) o0 o1 o2 o3) (P.sets4 (w.heap.size) (by omega) o0 o1 o2 o3))) (.int .u64 0) (.int .u64 0) (.int .u64 0) (.int .u64 0);have fr := Dr.f4;have fR := R.f;refine bodyPost_ret (v := .tuple #[.agg #[.int .u64 0, .int .u64 0, .int .u64 0, .int .u64 0], .int .i64 (er : Int)]) (by simp [results, Tryz.results131, go_sem, fr]; try rfl) rfl ?_;exact ⟨_, _, rfl, R, P⟩
set_option maxHeartbeats 4000000 in
theorem range_d (base b g cap k : Nat) (s : ByteArray) (l : List UInt8) (n : Rx.Nt) (w : World) (R : Rd base b g cap s l k n w) (a j c i : Nat) (h : Rx.singleF Rx.inL l k = .ok a j) (h45 : Rx.pk l j = 45) (h2 : Rx.singleF Rx.inL l (j + 1) = .ok c i) (hlt : c < a) :
  Calls Tryz.prog 131 #[.pointer (some ⟨b, 0, none⟩)] w (GP base b g w s l (.tuple #[.agg #[.int .u64 0, .int .u64 0, .int .u64 0, .int .u64 0], .int .i64 2]) (j + 1) n) := by
 have P := Kp.refl b g w;have hl64 := R.ll;obtain ⟨hbs, hgs, hts⟩ := R.lt;have hb1 := R.b1;have HS := Lib.hid h;have HS2 := Lib.hid h2;have H45 := Lib.hid h45;have hj := Rx.pk_lt (l := l) (k := j) (by omega);clear h h2 h45;have hq : decide ((c : Int) < (a : Int)) = true := decide_eq_true (by omega);have hq2 : decide (c < a) = true := decide_eq_true (by omega);go_enter Tryz.func131, Tryz.ntmps131
 go_wp2_with fail
 have uG0 := R.lt.2.1;have Dr := At.nw (w) [.int .u64 0, .int .u64 0, .int .u64 0, .int .u64 0] 103;obtain ⟨R, P⟩ := (fun o => And.intro (R.alloc o) (P.alloc o)) (.cells #[.int .u64 0, .int .u64 0, .int .u64 0, .int .u64 0] 103);have ltr := Dr.lt;refine (((single_in base b _ _ (k) s l n _ R HS.out).mono fun _ _ h => sp_ok h)).mono ?_;rintro e w1 ⟨g1, cap1, rfl, R2, K2⟩;have hrow := K2.row;have qr1 : g1 ≠ w.heap.size := by omega
 have Dr := Dr.kp K2 (by omega) (by omega);have P := P.trans K2;have R := R2;clear R2 K2 hrow ltr;have fr := Dr.f4;have fR := R.f;clear HS;go_wp2_with fail
 clear fr fR;have ltr := Dr.lt;refine (skip_yes base b _ _ j s l n _ R 45 hj H45.out).mono ?_;rintro e w2 ⟨g2, cap2, rfl, R2, K2⟩;have hrow := K2.row;have qr2 : g2 ≠ w.heap.size := by omega
 have Dr := Dr.kp K2 (by omega) (by omega);have P := P.trans K2;have R := R2;clear R2 K2 hrow ltr;have fr := Dr.f4;have fR := R.f;clear H45;go_wp2_with fail
 clear fr fR;have ltr := Dr.lt;refine (((single_in base b _ _ (j + 1) s l n _ R HS2.out).mono fun _ _ h => sp_ok h)).mono ?_;rintro e w3 ⟨g3, cap3, rfl, R2, K2⟩;have hrow := K2.row;have qr3 : g3 ≠ w.heap.size := by omega
 have Dr := Dr.kp K2 (by omega) (by omega);have P := P.trans K2;have R := R2;clear R2 K2 hrow ltr;have fr := Dr.f4;have fR := R.f;clear HS2;clear fr fR;have fr := Dr.f4;have fR := R.f;go_wp2
 clear fr fR;have Dr : At ((((((w3).setCell ⟨b, 1, none⟩ (.int .i64 (j + 1 : Int))).setCell ⟨w.heap.size, 0, none⟩ (.int .u64 0)).setCell ⟨w.heap.size, 1, none⟩ (.int .u64 0)).setCell ⟨w.heap.size, 2, none⟩ (.int .u64 0)).setCell ⟨w.heap.size, 3, none⟩ (.int .u64 0)) (w.heap.size) [.int .u64 0, .int .u64 0, .int .u64 0, .int .u64 0] := (((((Dr.far (b' := b) (j := 1) (by omega) (.int .i64 (j + 1 : Int))).set 0 (.int .u64 0)).set 1 (.int .u64 0)).set 2 (.int .u64 0)).set 3 (.int .u64 0));have R := (((((R.move (k' := j + 1) (by omega)).far (c := w.heap.size) 0 (by omega) (by omega) (by omega) (.int .u64 0)).far (c := w.heap.size) 1 (by omega) (by omega) (by omega) (.int .u64 0)).far (c := w.heap.size) 2 (by omega) (by omega) (by omega) (.int .u64 0)).far (c := w.heap.size) 3 (by omega) (by omega) (by omega) (.int .u64 0));have P := ((P.setCell (p := ⟨b, 1, none⟩) (.inr rfl) (.int .i64 ((j + 1 : Nat) : Int))).sets4 (w.heap.size) (by omega) (.int .u64 0) (.int .u64 0) (.int .u64 0) (.int .u64 0));have fr := Dr.f4;have fR := R.f;refine bodyPost_ret (v := .tuple #[.agg #[.int .u64 0, .int .u64 0, .int .u64 0, .int .u64 0], .int .i64 2]) (by simp [results, Tryz.results131, go_sem, fr]; try rfl) rfl ?_;exact ⟨_, _, rfl, R, P⟩
set_option maxHeartbeats 4000000 in
theorem range_b (base b g cap k : Nat) (s : ByteArray) (l : List UInt8) (n : Rx.Nt) (w : World) (R : Rd base b g cap s l k n w) (a j : Nat) (h : Rx.singleF Rx.inL l k = .ok a j) (h45 : Rx.pk l j ≠ 45) (ha : 32 ≤ a ∧ a ≤ 126) :
  Calls Tryz.prog 131 #[.pointer (some ⟨b, 0, none⟩)] w (GP base b g w s l (.tuple #[setV (Rx.runM a (a + 1 - a)), .int .i64 0]) j n) := by
 have P := Kp.refl b g w;have hl64 := R.ll;obtain ⟨hbs, hgs, hts⟩ := R.lt;have hb1 := R.b1;have HS := Lib.hid h;have H45 := Lib.hid h45;clear h h45;go_enter Tryz.func131, Tryz.ntmps131
 go_wp2_with fail
 have uG0 := R.lt.2.1;have Dr := At.nw (w) [.int .u64 0, .int .u64 0, .int .u64 0, .int .u64 0] 103;obtain ⟨R, P⟩ := (fun o => And.intro (R.alloc o) (P.alloc o)) (.cells #[.int .u64 0, .int .u64 0, .int .u64 0, .int .u64 0] 103);have ltr := Dr.lt;refine (((single_in base b _ _ (k) s l n _ R HS.out).mono fun _ _ h => sp_ok h)).mono ?_;rintro e w1 ⟨g1, cap1, rfl, R2, K2⟩;have hrow := K2.row;have qr1 : g1 ≠ w.heap.size := by omega
 have Dr := Dr.kp K2 (by omega) (by omega);have P := P.trans K2;have R := R2;clear R2 K2 hrow ltr;have fr := Dr.f4;have fR := R.f;clear HS;go_wp2_with fail
 clear fr fR;refine (skip_no base b _ _ j s l n _ R 45 H45.out).mono ?_;rintro e w2 ⟨rfl, hb2⟩;have Dr := Dr.below hb2;have R := R.below hb2;have P := P.below hb2;clear hb2;have fr := Dr.f4;have fR := R.f;clear H45;go_wp2_with fail
 clear fr fR;have ur1 := Dr.lt;have uG1 := R.lt.2.1;have Dm := At.nw (w2) [.int .u64 0, .int .u64 0, .int .u64 0, .int .u64 0] 103;obtain ⟨Dr, R, P⟩ := (fun o => And.intro (Dr.alloc o) (And.intro (R.alloc o) (P.alloc o))) (.cells #[.int .u64 0, .int .u64 0, .int .u64 0, .int .u64 0] 103);generalize (w2).alloc (.cells #[.int .u64 0, .int .u64 0, .int .u64 0, .int .u64 0] 103) = wl at *;have hsep := ur1;generalize w2.heap.size = bm at *;have hbm := Dm.lt;go_loopw [9] (fun cv wr => ∃ q : Nat, a ≤ q ∧ q ≤ a + 1 ∧ cv = .int .u8 (q : Int) ∧ w.heap.size < wr.heap.size ∧ bm < wr.heap.size ∧ At wr bm [.int .u64 (word (Rx.runM a (q - a)) 0), .int .u64 (word (Rx.runM a (q - a)) 1), .int .u64 (word (Rx.runM a (q - a)) 2), .int .u64 (word (Rx.runM a (q - a)) 3)] ∧ At wr w.heap.size [.int .u64 0, .int .u64 0, .int .u64 0, .int .u64 0] ∧ Rd base b g1 cap1 s l j n wr ∧ Kp b g w g1 wr) (fun cv _ => a + 1 - (RowKit.intOf cv).toNat)
 case atStart => exact ⟨a, Nat.le_refl _, by omega, rfl, Dr.lt, Dm.lt, by rw [Nat.sub_self]; simpa [Rx.runM, word_zero] using Dm, Dr, R, P⟩
 case round =>
  clear Dm Dr R P hbm;obtain ⟨q, hq1, hq2, rfl, hz1, hz2, Dm, Dr, R, P⟩ := hrel;by_cases hlt : q ≤ a
  ·
   have hd : decide ((q : Int) ≤ (a : Int)) = true := decide_eq_true (by omega);have hd2 : decide (q ≤ a) = true := decide_eq_true (by omega);have hM : Rx.runM a (q + 1 - a) = Rx.runM a (q - a) ||| 2 ^ q := by rw [show q + 1 - a = (q - a) + 1 from by omega]; show Rx.runM a (q - a) ||| 2 ^ (a + (q - a)) = _; rw [show a + (q - a) = q from by omega]
   generalize Rx.runM a (q - a) = M1 at *;have HM := Lib.hid hM;clear hM;have fr := Dr.f4;have fm := Dm.f4;have fR := R.f;go_wp2_with fail
   clear fr fm fR;refine (bwith_w M1 q (by omega) _).mono ?_;rintro e w3 ⟨rfl, hb3⟩;have Dr := Dr.below hb3;have Dm := Dm.below hb3;have R := R.below hb3;have P := P.below hb3;clear hb3;have fr := Dr.f4;have fm := Dm.f4;have fR := R.f;generalize M1 ||| 2 ^ q = M2 at *
   go_wp2
   clear fr fm fR;obtain ⟨Dr, Dm, R, P⟩ := (fun o0 o1 o2 o3 => And.intro (Dr.fars4 bm (by omega) o0 o1 o2 o3) (And.intro (Dm.puts4 o0 o1 o2 o3) (And.intro (R.fars4 bm (by omega) (by omega) (by omega) o0 o1 o2 o3) (P.sets4 bm (by omega) o0 o1 o2 o3)))) (.int .u64 (word (M2) 0)) (.int .u64 (word (M2) 1)) (.int .u64 (word (M2) 2)) (.int .u64 (word (M2) 3));have hz3 := Dr.lt;have hz4 := Dm.lt;go_roundw
   case rel => exact ⟨q + 1, by omega, by omega, by go_num, hz3, hz4, by rw [HM.out]; exact Dm, Dr, R, P⟩
   case measure => simp [RowKit.intOf]; omega
  ·
   have hd : decide ((q : Int) ≤ (a : Int)) = false := decide_eq_false (by omega);have hd2 : decide (q ≤ a) = false := decide_eq_false (by omega);obtain rfl : q = a + 1 := by omega
   generalize Rx.runM a (a + 1 - a) = MX at *;have fr := Dr.f4;have fm := Dm.f4;have fR := R.f;go_wp2
   clear fr fm fR;obtain ⟨Dr, Dm, R, P⟩ := (fun o0 o1 o2 o3 => And.intro (Dr.puts4 o0 o1 o2 o3) (And.intro (Dm.fars4 (w.heap.size) (by omega) o0 o1 o2 o3) (And.intro (R.fars4 (w.heap.size) (by omega) (by omega) (by omega) o0 o1 o2 o3) (P.sets4 (w.heap.size) (by omega) o0 o1 o2 o3)))) (.int .u64 (word (MX) 0)) (.int .u64 (word (MX) 1)) (.int .u64 (word (MX) 2)) (.int .u64 (word (MX) 3));have fr := Dr.f4;have fm := Dm.f4;have fR := R.f;refine bodyPost_ret (v := .tuple #[setV MX, .int .i64 0]) (by simp [results, Tryz.results131, go_sem, fr]; try rfl) rfl ?_;exact ⟨_, _, rfl, R, P⟩
set_option maxHeartbeats 4000000 in
theorem range_e (base b g cap k : Nat) (s : ByteArray) (l : List UInt8) (n : Rx.Nt) (w : World) (R : Rd base b g cap s l k n w) (a j c i : Nat) (h : Rx.singleF Rx.inL l k = .ok a j) (h45 : Rx.pk l j = 45) (h2 : Rx.singleF Rx.inL l (j + 1) = .ok c i) (hlt : ¬ c < a) (ha : 32 ≤ a ∧ a ≤ 126) (hc : c ≤ 126) :
  Calls Tryz.prog 131 #[.pointer (some ⟨b, 0, none⟩)] w (GP base b g w s l (.tuple #[setV (Rx.runM a (c + 1 - a)), .int .i64 0]) i n) := by
 have P := Kp.refl b g w;have hl64 := R.ll;obtain ⟨hbs, hgs, hts⟩ := R.lt;have hb1 := R.b1;have HS := Lib.hid h;have HS2 := Lib.hid h2;have H45 := Lib.hid h45;have hj := Rx.pk_lt (l := l) (k := j) (by omega);clear h h2 h45;have hq : decide ((c : Int) < (a : Int)) = false := decide_eq_false (by omega);have hq2 : decide (c < a) = false := decide_eq_false (by omega);go_enter Tryz.func131, Tryz.ntmps131
 go_wp2_with fail
 have uG0 := R.lt.2.1;have Dr := At.nw (w) [.int .u64 0, .int .u64 0, .int .u64 0, .int .u64 0] 103;obtain ⟨R, P⟩ := (fun o => And.intro (R.alloc o) (P.alloc o)) (.cells #[.int .u64 0, .int .u64 0, .int .u64 0, .int .u64 0] 103);have ltr := Dr.lt;refine (((single_in base b _ _ (k) s l n _ R HS.out).mono fun _ _ h => sp_ok h)).mono ?_;rintro e w1 ⟨g1, cap1, rfl, R2, K2⟩;have hrow := K2.row;have qr1 : g1 ≠ w.heap.size := by omega
 have Dr := Dr.kp K2 (by omega) (by omega);have P := P.trans K2;have R := R2;clear R2 K2 hrow ltr;have fr := Dr.f4;have fR := R.f;clear HS;go_wp2_with fail
 clear fr fR;have ltr := Dr.lt;refine (skip_yes base b _ _ j s l n _ R 45 hj H45.out).mono ?_;rintro e w2 ⟨g2, cap2, rfl, R2, K2⟩;have hrow := K2.row;have qr2 : g2 ≠ w.heap.size := by omega
 have Dr := Dr.kp K2 (by omega) (by omega);have P := P.trans K2;have R := R2;clear R2 K2 hrow ltr;have fr := Dr.f4;have fR := R.f;clear H45;go_wp2_with fail
 clear fr fR;have ltr := Dr.lt;refine (((single_in base b _ _ (j + 1) s l n _ R HS2.out).mono fun _ _ h => sp_ok h)).mono ?_;rintro e w3 ⟨g3, cap3, rfl, R2, K2⟩;have hrow := K2.row;have qr3 : g3 ≠ w.heap.size := by omega
 have Dr := Dr.kp K2 (by omega) (by omega);have P := P.trans K2;have R := R2;clear R2 K2 hrow ltr;have fr := Dr.f4;have fR := R.f;clear HS2;go_wp2_with fail
 clear fr fR;have ur1 := Dr.lt;have uG1 := R.lt.2.1;have Dm := At.nw (w3) [.int .u64 0, .int .u64 0, .int .u64 0, .int .u64 0] 103;obtain ⟨Dr, R, P⟩ := (fun o => And.intro (Dr.alloc o) (And.intro (R.alloc o) (P.alloc o))) (.cells #[.int .u64 0, .int .u64 0, .int .u64 0, .int .u64 0] 103);generalize (w3).alloc (.cells #[.int .u64 0, .int .u64 0, .int .u64 0, .int .u64 0] 103) = wl at *;have hsep := ur1;generalize w3.heap.size = bm at *;have hbm := Dm.lt;go_loopw [9] (fun cv wr => ∃ q : Nat, a ≤ q ∧ q ≤ c + 1 ∧ cv = .int .u8 (q : Int) ∧ w.heap.size < wr.heap.size ∧ bm < wr.heap.size ∧ At wr bm [.int .u64 (word (Rx.runM a (q - a)) 0), .int .u64 (word (Rx.runM a (q - a)) 1), .int .u64 (word (Rx.runM a (q - a)) 2), .int .u64 (word (Rx.runM a (q - a)) 3)] ∧ At wr w.heap.size [.int .u64 0, .int .u64 0, .int .u64 0, .int .u64 0] ∧ Rd base b g3 cap3 s l i n wr ∧ Kp b g w g3 wr) (fun cv _ => c + 1 - (RowKit.intOf cv).toNat)
 case atStart => exact ⟨a, Nat.le_refl _, by omega, rfl, Dr.lt, Dm.lt, by rw [Nat.sub_self]; simpa [Rx.runM, word_zero] using Dm, Dr, R, P⟩
 case round =>
  clear Dm Dr R P hbm;obtain ⟨q, hq1, hq2, rfl, hz1, hz2, Dm, Dr, R, P⟩ := hrel;by_cases hlt : q ≤ c
  ·
   have hd : decide ((q : Int) ≤ (c : Int)) = true := decide_eq_true (by omega);have hd2 : decide (q ≤ c) = true := decide_eq_true (by omega);have hM : Rx.runM a (q + 1 - a) = Rx.runM a (q - a) ||| 2 ^ q := by rw [show q + 1 - a = (q - a) + 1 from by omega]; show Rx.runM a (q - a) ||| 2 ^ (a + (q - a)) = _; rw [show a + (q - a) = q from by omega]
   generalize Rx.runM a (q - a) = M1 at *;have HM := Lib.hid hM;clear hM;have fr := Dr.f4;have fm := Dm.f4;have fR := R.f;go_wp2_with fail
   clear fr fm fR;refine (bwith_w M1 q (by omega) _).mono ?_;rintro e w4 ⟨rfl, hb4⟩;have Dr := Dr.below hb4;have Dm := Dm.below hb4;have R := R.below hb4;have P := P.below hb4;clear hb4;have fr := Dr.f4;have fm := Dm.f4;have fR := R.f;generalize M1 ||| 2 ^ q = M2 at *
   go_wp2
   clear fr fm fR;obtain ⟨Dr, Dm, R, P⟩ := (fun o0 o1 o2 o3 => And.intro (Dr.fars4 bm (by omega) o0 o1 o2 o3) (And.intro (Dm.puts4 o0 o1 o2 o3) (And.intro (R.fars4 bm (by omega) (by omega) (by omega) o0 o1 o2 o3) (P.sets4 bm (by omega) o0 o1 o2 o3)))) (.int .u64 (word (M2) 0)) (.int .u64 (word (M2) 1)) (.int .u64 (word (M2) 2)) (.int .u64 (word (M2) 3));have hz3 := Dr.lt;have hz4 := Dm.lt;go_roundw
   case rel => exact ⟨q + 1, by omega, by omega, by go_num, hz3, hz4, by rw [HM.out]; exact Dm, Dr, R, P⟩
   case measure => simp [RowKit.intOf]; omega
  ·
   have hd : decide ((q : Int) ≤ (c : Int)) = false := decide_eq_false (by omega);have hd2 : decide (q ≤ c) = false := decide_eq_false (by omega);obtain rfl : q = c + 1 := by omega
   generalize Rx.runM a (c + 1 - a) = MX at *;have fr := Dr.f4;have fm := Dm.f4;have fR := R.f;go_wp2
   clear fr fm fR;obtain ⟨Dr, Dm, R, P⟩ := (fun o0 o1 o2 o3 => And.intro (Dr.puts4 o0 o1 o2 o3) (And.intro (Dm.fars4 (w.heap.size) (by omega) o0 o1 o2 o3) (And.intro (R.fars4 (w.heap.size) (by omega) (by omega) (by omega) o0 o1 o2 o3) (P.sets4 (w.heap.size) (by omega) o0 o1 o2 o3)))) (.int .u64 (word (MX) 0)) (.int .u64 (word (MX) 1)) (.int .u64 (word (MX) 2)) (.int .u64 (word (MX) 3));have fr := Dr.f4;have fm := Dm.f4;have fR := R.f;refine bodyPost_ret (v := .tuple #[setV MX, .int .i64 0]) (by simp [results, Tryz.results131, go_sem, fr]; try rfl) rfl ?_;exact ⟨_, _, rfl, R, P⟩
theorem range_any (base b g cap k : Nat) (s : ByteArray) (l : List UInt8) (n : Rx.Nt) (w : World) (R : Rd base b g cap s l k n w) :
  Calls Tryz.prog 131 #[.pointer (some ⟨b, 0, none⟩)] w (RP base b g w s l n (Rx.rangeF l k)) := by
 have gs := Rx.single_goes Rx.inL R.kl;unfold Rx.rangeF;cases hs : Rx.singleF Rx.inL l k with
 | bad er j => rw [hs] at gs; exact range_a base b g cap k s l n w R er j hs gs.2.2
 | ok a j =>
  rw [hs] at gs;dsimp only;by_cases h45 : Rx.pk l j = 45
  ·
   rw [if_pos h45];have hj := Rx.pk_lt (l := l) (k := j) (by omega);have g2 := Rx.single_goes Rx.inL (l := l) (k := j + 1) (by omega);cases hs2 : Rx.singleF Rx.inL l (j + 1) with
   | bad er i => rw [hs2] at g2; exact range_c base b g cap k s l n w R a j er i hs h45 hs2 g2.2.2
   | ok c i =>
    rw [hs2] at g2;dsimp only;by_cases hlt : c < a
    ·
     rw [if_pos hlt]; exact range_d base b g cap k s l n w R a j c i hs h45 hs2 hlt
    ·
     rw [if_neg hlt]; exact range_e base b g cap k s l n w R a j c i hs h45 hs2 hlt gs.2.2 g2.2.2.2
  ·
   rw [if_neg h45]; exact range_b base b g cap k s l n w R a j hs h45 gs.2.2
end Go.Proofs.YthdoniefjmphaaaGreatDoor
