/- The reference: atom, what is in brackets by its contract. -/
import Derived.Test.YthdoniefjmphaaaGreatDoorRKids
import Derived.Test.YthdoniefjmphaaaGreatDoorQuote
namespace Go.Proofs.YthdoniefjmphaaaGreatDoor
open Go Go.Proofs Go.RowKit Go.Shelf
set_option maxRecDepth 100000
attribute [local go_sem] cell_set ndV
theorem mask_one (x : Nat) : Rx.maskB false [(x, x)] = 2 ^ x := by
 show 0 ||| Rx.runM x (x + 1 - x) = 2 ^ x
 rw [show x + 1 - x = 1 from by omega];show 0 ||| (0 ||| 2 ^ (x + 0)) = 2 ^ x
 simp
def mapLeaf (r : Rx.Res Nat) : Rx.Res Rx.Pt := match r with | .bad e j => .bad e j | .ok c j => .ok (.leaf (2 ^ c)) j
theorem atom_stroke (inner : Nat → Rx.Res Rx.Pt) (l : List UInt8) (k : Nat) (h : Rx.pk l k = 92) : Rx.atomF inner l k = mapLeaf (rxescR l k) := by
 unfold Rx.atomF mapLeaf;rw [if_neg (by omega), if_neg (by omega), if_neg (by omega), esc_single h];cases rxescR l k <;> rfl
def spB (x : Nat) : Bool := specialL.contains x.toUInt8
theorem special_n (x : Nat) (hx : x < 256) (w : World) : Calls Tryz.prog 85 #[.int .u8 (x : Int)] w fun e w' => e = .returned (.bool (spB x)) ∧ w = w' := by
 have h := special_any x.toUInt8 w;rw [show ((x.toUInt8).toNat : Int) = (x : Int) from by simp; omega] at h;exact h
theorem sp_out : ∀ x : Nat, x < 256 → (spB x = true ↔ Rx.inS Rx.outL x = true ∨ x = 92) := by
 have key : ∀ y : Fin 256, (spB y.val = true ↔ Rx.inS Rx.outL y.val = true ∨ y.val = 92) := by decide +kernel
 exact fun x hx => key ⟨x, hx⟩
def GroupOK (b : Nat) (s : ByteArray) (l : List UInt8) (dp : Nat) (inner : Nat → Rx.Res Rx.Pt) : Prop :=
 ∀ (z dz : Int) (k : Nat) (w : World), Pa b s l z dz 0 0 k dp w → Rx.pk l k = 40 → Calls Tryz.prog 82 #[.pointer (some ⟨b, 0, none⟩)] w (NP b w s l dp (inner k))
theorem NP.nil {b : Nat} {w w' : World} {s : ByteArray} {l : List UInt8} {z dz : Int} {k dp : Nat} {er j : Nat} {bad pos : Int} (R : Pa b s l z dz bad pos k dp w') (P : Kq b w w') (h1 : bad = (er : Int)) (h2 : pos = (j : Int)) (h3 : er ≠ 0) : NP b w s l dp (.bad er j) (.returned (ndV nd0)) w' :=
 ⟨nd0, _, _, _, _, _, rfl, R, P, h1, h2, h3⟩
set_option maxHeartbeats 2000000 in
theorem ratom_e (b : Nat) (s : ByteArray) (l : List UInt8) (dz : Int) (k dp : Nat) (w : World) (R : Pa b s l (k : Int) dz 0 0 k dp w) (hend : l.length ≤ k) :
  Calls Tryz.prog 63 #[.pointer (some ⟨b, 0, none⟩)] w (NP b w s l dp (.bad 2 k)) := by
 have hsz : s.size = l.length := by rw [Lib.size_eq, R.txt]
 have hl := R.ll;have P := Kq.refl b w;have h2 : (s.size : Int) ≤ (k : Int) := by omega
 have hkl := R.kl;have fR := R.f;go_enter Tryz.func63, Tryz.ntmps63
 go_wp2_with fail
 clear fR;have uR0 := R.cells.lt;have Dr := At.nwn _ (w) 0 false none 0 0 none 0 0 rfl;obtain ⟨R, P⟩ := (fun o => And.intro (R.alloc o) (P.alloc o)) (nC 0 false none 0 0 none 0 0);generalize (w).alloc (nC 0 false none 0 0 none 0 0) = v0 at *;have fr := Dr.f4;have fR := R.f;go_quiet (fail)
 clear fr fR;have Dr := (Dr.drewN nq);have R := (R.drewN nq);have P := (P.drewN nq);generalize (v0).drewN nq = v1 at *;have fr := Dr.f4;have fR := R.f;go_wp2_with fail
 clear fr fR;have ltr := Dr.lt;have ltR := R.cells.lt;refine (pfail_any b s l _ _ _ _ _ _ _ _ R).mono ?_;rintro e w1 ⟨rfl, R2, P2⟩;have Dr := Dr.kq P2 (by omega);have P := P.trans P2;have P3 := P2;have R := R2;clear R2 P2;clear ltR ltr;have fr := Dr.f4;have fR := R.f;go_wp2
 clear fr fR;obtain ⟨Dr, R, P⟩ := (fun o0 o1 o2 o3 => And.intro (Dr.puts4 o0 o1 o2 o3) (And.intro (R.fars4 (w.heap.size) (by omega) o0 o1 o2 o3) (P.sets4 (w.heap.size) (by omega) o0 o1 o2 o3))) (.int .u8 0) (.bool false) (.slice none 0 0) (.slice none 0 0);generalize ((((w1).setCell ⟨w.heap.size, 0, none⟩ (.int .u8 0)).setCell ⟨w.heap.size, 1, none⟩ (.bool false)).setCell ⟨w.heap.size, 2, none⟩ (.slice none 0 0)).setCell ⟨w.heap.size, 3, none⟩ (.slice none 0 0) = v9 at *;have fr := Dr.f4;have fR := R.f;refine bodyPost_ret (v := ndV nd0) (by simp [results, Tryz.results63, go_sem, fr, nd0]; try rfl) rfl ?_;exact NP.nil R P (er := 2) (j := k) rfl (by omega) (by decide)
set_option maxHeartbeats 2000000 in
theorem ratom_b (b : Nat) (s : ByteArray) (l : List UInt8) (dz : Int) (k dp : Nat) (w : World) (R : Pa b s l (k : Int) dz 0 0 k dp w) (hk : k < l.length) (x : Nat) (hxx : Rx.pk l k = x) (hr : x < 32 ∨ 126 < x) :
  Calls Tryz.prog 63 #[.pointer (some ⟨b, 0, none⟩)] w (NP b w s l dp (.bad 2 k)) := by
 have hsz : s.size = l.length := by rw [Lib.size_eq, R.txt]
 have hl := R.ll;have P := Kq.refl b w;have h1 : (k : Int) < (s.size : Int) := by omega
 have h2 : ¬ ((s.size : Int) ≤ (k : Int)) := by omega
 have h4 : decide ((s.size : Int) ≤ (k : Int)) = false := decide_eq_false h2;have h3 : (0 : Int) ≤ (k : Int) := by omega
 have hi : k < s.size := by omega
 have hx0 := pk_byteAt R.txt k hi;have hx : (s[k]'hi).toNat = x := by rw [hx0]; exact hxx
 clear hx0;rcases hr with hr | hr
 ·
  have dlo : decide ((x : Int) < 32) = true := decide_eq_true (by omega);have dhi : decide (126 < (x : Int)) = false := decide_eq_false (by omega);have fR := R.f;go_enter Tryz.func63, Tryz.ntmps63
  go_wp2_with fail
  clear fR;have uR0 := R.cells.lt;have Dr := At.nwn _ (w) 0 false none 0 0 none 0 0 rfl;obtain ⟨R, P⟩ := (fun o => And.intro (R.alloc o) (P.alloc o)) (nC 0 false none 0 0 none 0 0);generalize (w).alloc (nC 0 false none 0 0 none 0 0) = v0 at *;have fr := Dr.f4;have fR := R.f;go_quiet (fail)
  clear fr fR;have Dr := (Dr.drewN nq);have R := (R.drewN nq);have P := (P.drewN nq);generalize (v0).drewN nq = v1 at *;have fr := Dr.f4;have fR := R.f;go_wp2_with fail
  go_quiet (fail)
  clear fr fR;have Dr := (Dr.drewN nq);have R := (R.drewN nq);have P := (P.drewN nq);generalize (v1).drewN nq = v2 at *;have fr := Dr.f4;have fR := R.f;go_wp2_with fail
  clear fr fR;have ltr := Dr.lt;have ltR := R.cells.lt;refine (pfail_any b s l _ _ _ _ _ _ _ _ R).mono ?_;rintro e w1 ⟨rfl, R2, P2⟩;have Dr := Dr.kq P2 (by omega);have P := P.trans P2;have P3 := P2;have R := R2;clear R2 P2;clear ltR ltr;have fr := Dr.f4;have fR := R.f;go_wp2
  clear fr fR;obtain ⟨Dr, R, P⟩ := (fun o0 o1 o2 o3 => And.intro (Dr.puts4 o0 o1 o2 o3) (And.intro (R.fars4 (w.heap.size) (by omega) o0 o1 o2 o3) (P.sets4 (w.heap.size) (by omega) o0 o1 o2 o3))) (.int .u8 0) (.bool false) (.slice none 0 0) (.slice none 0 0);generalize ((((w1).setCell ⟨w.heap.size, 0, none⟩ (.int .u8 0)).setCell ⟨w.heap.size, 1, none⟩ (.bool false)).setCell ⟨w.heap.size, 2, none⟩ (.slice none 0 0)).setCell ⟨w.heap.size, 3, none⟩ (.slice none 0 0) = v9 at *;have fr := Dr.f4;have fR := R.f;refine bodyPost_ret (v := ndV nd0) (by simp [results, Tryz.results63, go_sem, fr, nd0]; try rfl) rfl ?_;exact NP.nil R P (er := 2) (j := k) rfl (by rfl) (by decide)
 ·
  have dlo : decide ((x : Int) < 32) = false := decide_eq_false (by omega);have dhi : decide (126 < (x : Int)) = true := decide_eq_true (by omega);have fR := R.f;go_enter Tryz.func63, Tryz.ntmps63
  go_wp2_with fail
  clear fR;have uR0 := R.cells.lt;have Dr := At.nwn _ (w) 0 false none 0 0 none 0 0 rfl;obtain ⟨R, P⟩ := (fun o => And.intro (R.alloc o) (P.alloc o)) (nC 0 false none 0 0 none 0 0);generalize (w).alloc (nC 0 false none 0 0 none 0 0) = v0 at *;have fr := Dr.f4;have fR := R.f;go_quiet (fail)
  clear fr fR;have Dr := (Dr.drewN nq);have R := (R.drewN nq);have P := (P.drewN nq);generalize (v0).drewN nq = v1 at *;have fr := Dr.f4;have fR := R.f;go_wp2_with fail
  go_quiet (fail)
  clear fr fR;have Dr := (Dr.drewN nq);have R := (R.drewN nq);have P := (P.drewN nq);generalize (v1).drewN nq = v2 at *;have fr := Dr.f4;have fR := R.f;go_wp2_with fail
  clear fr fR;have ltr := Dr.lt;have ltR := R.cells.lt;refine (pfail_any b s l _ _ _ _ _ _ _ _ R).mono ?_;rintro e w1 ⟨rfl, R2, P2⟩;have Dr := Dr.kq P2 (by omega);have P := P.trans P2;have P3 := P2;have R := R2;clear R2 P2;clear ltR ltr;have fr := Dr.f4;have fR := R.f;go_wp2
  clear fr fR;obtain ⟨Dr, R, P⟩ := (fun o0 o1 o2 o3 => And.intro (Dr.puts4 o0 o1 o2 o3) (And.intro (R.fars4 (w.heap.size) (by omega) o0 o1 o2 o3) (P.sets4 (w.heap.size) (by omega) o0 o1 o2 o3))) (.int .u8 0) (.bool false) (.slice none 0 0) (.slice none 0 0);generalize ((((w1).setCell ⟨w.heap.size, 0, none⟩ (.int .u8 0)).setCell ⟨w.heap.size, 1, none⟩ (.bool false)).setCell ⟨w.heap.size, 2, none⟩ (.slice none 0 0)).setCell ⟨w.heap.size, 3, none⟩ (.slice none 0 0) = v9 at *;have fr := Dr.f4;have fR := R.f;refine bodyPost_ret (v := ndV nd0) (by simp [results, Tryz.results63, go_sem, fr, nd0]; try rfl) rfl ?_;exact NP.nil R P (er := 2) (j := k) rfl (by rfl) (by decide)
set_option maxHeartbeats 2000000 in
theorem ratom_d (b : Nat) (s : ByteArray) (l : List UInt8) (dz : Int) (k dp : Nat) (w : World) (R : Pa b s l (k : Int) dz 0 0 k dp w) (hk : k < l.length) (hxx : Rx.pk l k = 46) :
  Calls Tryz.prog 63 #[.pointer (some ⟨b, 0, none⟩)] w (NP b w s l dp (.ok (.leaf Rx.fullM) (k + 1))) := by
 have hsz : s.size = l.length := by rw [Lib.size_eq, R.txt]
 have hl := R.ll;have P := Kq.refl b w;have h1 : (k : Int) < (s.size : Int) := by omega
 have h2 : ¬ ((s.size : Int) ≤ (k : Int)) := by omega
 have h4 : decide ((s.size : Int) ≤ (k : Int)) = false := decide_eq_false h2;have h3 : (0 : Int) ≤ (k : Int) := by omega
 have hi : k < s.size := by omega
 have hx0 := pk_byteAt R.txt k hi;have hx : (s[k]'hi).toNat = 46 := by rw [hx0]; exact hxx
 clear hx0;have fR := R.f;go_enter Tryz.func63, Tryz.ntmps63
 go_wp2_with fail
 clear fR;have uR0 := R.cells.lt;have Dr := At.nwn _ (w) 0 false none 0 0 none 0 0 rfl;obtain ⟨R, P⟩ := (fun o => And.intro (R.alloc o) (P.alloc o)) (nC 0 false none 0 0 none 0 0);generalize (w).alloc (nC 0 false none 0 0 none 0 0) = v0 at *;have fr := Dr.f4;have fR := R.f;go_quiet (fail)
 clear fr fR;have Dr := (Dr.drewN nq);have R := (R.drewN nq);have P := (P.drewN nq);generalize (v0).drewN nq = v1 at *;have fr := Dr.f4;have fR := R.f;go_wp2_with fail
 go_quiet (fail)
 clear fr fR;have Dr := (Dr.drewN nq);have R := (R.drewN nq);have P := (P.drewN nq);generalize (v1).drewN nq = v2 at *;have fr := Dr.f4;have fR := R.f;go_upto_region 11 with (fail)
 clear fr fR;have Dr := (Dr.far (b' := b) (j := 1) (by omega) (.int .i64 ((k : Int) + 1)));have R := (R.move (z' := (k : Int) + 1) (k' := k + 1) (by omega) (by omega));have P := (P.setCell (p := ⟨b, 1, none⟩) (.inr rfl) (.int .i64 ((k : Int) + 1)));generalize (v2).setCell ⟨b, 1, none⟩ (.int .i64 ((k : Int) + 1)) = v3 at *;have fr := Dr.f4;have fR := R.f;go_wp2
 clear fr fR;obtain ⟨Dr, R, P⟩ := (fun o0 o1 o2 o3 => And.intro (Dr.puts4 o0 o1 o2 o3) (And.intro (R.fars4 (w.heap.size) (by omega) o0 o1 o2 o3) (P.sets4 (w.heap.size) (by omega) o0 o1 o2 o3))) (.int .u8 46) (.bool false) (.slice none 0 0) (.slice none 0 0);generalize ((((v3).setCell ⟨w.heap.size, 0, none⟩ (.int .u8 46)).setCell ⟨w.heap.size, 1, none⟩ (.bool false)).setCell ⟨w.heap.size, 2, none⟩ (.slice none 0 0)).setCell ⟨w.heap.size, 3, none⟩ (.slice none 0 0) = v9 at *;have fr := Dr.f4;have fR := R.f;refine bodyPost_ret (v := ndV ⟨46, false, none, 0, 0, none, 0, 0⟩) (by simp [results, Tryz.results63, go_sem, fr]; try rfl) rfl ?_;exact ⟨⟨46, false, none, 0, 0, none, 0, 0⟩, _, _, _, _, _, rfl, R, P, rfl, rfl, rfl, 1, Or.inr (Or.inl ⟨rfl, rfl⟩)⟩
set_option maxHeartbeats 2000000 in
theorem ratom_g (b : Nat) (s : ByteArray) (l : List UInt8) (dz : Int) (k dp : Nat) (w : World) (R : Pa b s l (k : Int) dz 0 0 k dp w) (hk : k < l.length) (x : Nat) (hxx : Rx.pk l k = x) (h32 : 32 ≤ x) (h126 : x ≤ 126) (hsp : spB x = false) (hn : x ≠ 46 ∧ x ≠ 40 ∧ x ≠ 91 ∧ x ≠ 92) :
  Calls Tryz.prog 63 #[.pointer (some ⟨b, 0, none⟩)] w (NP b w s l dp (.ok (.leaf (2 ^ x)) (k + 1))) := by
 have hsz : s.size = l.length := by rw [Lib.size_eq, R.txt]
 have hl := R.ll;have P := Kq.refl b w;have h1 : (k : Int) < (s.size : Int) := by omega
 have h2 : ¬ ((s.size : Int) ≤ (k : Int)) := by omega
 have h4 : decide ((s.size : Int) ≤ (k : Int)) = false := decide_eq_false h2;have h3 : (0 : Int) ≤ (k : Int) := by omega
 have hi : k < s.size := by omega
 have hx0 := pk_byteAt R.txt k hi;have hx : (s[k]'hi).toNat = x := by rw [hx0]; exact hxx
 clear hx0;obtain ⟨n1, n2, n3, n4⟩ := hn;have dlo : decide ((x : Int) < 32) = false := decide_eq_false (by omega);have dhi : decide (126 < (x : Int)) = false := decide_eq_false (by omega);have d46 : ((x : Int) == 46) = false := by rw [beq_eq_false_iff_ne]; omega
 have d40 : ((x : Int) == 40) = false := by rw [beq_eq_false_iff_ne]; omega
 have d91 : ((x : Int) == 91) = false := by rw [beq_eq_false_iff_ne]; omega
 have d92 : ((x : Int) == 92) = false := by rw [beq_eq_false_iff_ne]; omega
 have SP := Lib.hid (fun W => special_n x (by omega) W);rw [hsp] at SP;clear hxx n1 n2 n3 n4 hsp;have fR := R.f;go_enter Tryz.func63, Tryz.ntmps63
 go_wp2_with fail
 clear fR;have uR0 := R.cells.lt;have Dr := At.nwn _ (w) 0 false none 0 0 none 0 0 rfl;obtain ⟨R, P⟩ := (fun o => And.intro (R.alloc o) (P.alloc o)) (nC 0 false none 0 0 none 0 0);generalize (w).alloc (nC 0 false none 0 0 none 0 0) = v0 at *;have fr := Dr.f4;have fR := R.f;go_quiet (fail)
 clear fr fR;have Dr := (Dr.drewN nq);have R := (R.drewN nq);have P := (P.drewN nq);generalize (v0).drewN nq = v1 at *;have fr := Dr.f4;have fR := R.f;go_wp2_with fail
 go_quiet (fail)
 clear fr fR;have Dr := (Dr.drewN nq);have R := (R.drewN nq);have P := (P.drewN nq);generalize (v1).drewN nq = v2 at *;have fr := Dr.f4;have fR := R.f;go_wp2_with fail
 refine (SP.out _).mono ?_;rintro e w_ ⟨rfl, rfl⟩;go_upto_region 6 with (fail)
 clear fr fR;have Dr := (Dr.far (b' := b) (j := 1) (by omega) (.int .i64 ((k : Int) + 1)));have R := (R.move (z' := (k : Int) + 1) (k' := k + 1) (by omega) (by omega));have P := (P.setCell (p := ⟨b, 1, none⟩) (.inr rfl) (.int .i64 ((k : Int) + 1)));generalize (v2).setCell ⟨b, 1, none⟩ (.int .i64 ((k : Int) + 1)) = v3 at *;have fr := Dr.f4;have fR := R.f;go_wp2_with fail
 clear fr fR;refine (rone_any x _).mono ?_;rintro e w1 ⟨rfl, hb1, hsz1, hset⟩;have ltrX1 := Dr.lt;have ltRX1 := R.cells.lt;have Dr := Dr.below hb1;have R := R.below hb1;have P := P.below hb1;clear hb1;have X1 := Kx.refl (v3.heap.size) w1;have fr := Dr.f4;have fR := R.f;go_wp2
 clear fr fR;obtain ⟨Dr, R, P, X1⟩ := (fun o0 o1 o2 o3 => And.intro (Dr.puts4 o0 o1 o2 o3) (And.intro (R.fars4 (w.heap.size) (by omega) o0 o1 o2 o3) (And.intro (P.sets4 (w.heap.size) (by omega) o0 o1 o2 o3) (X1.sets4 (w.heap.size) (by omega) o0 o1 o2 o3)))) (.int .u8 99) (.bool false) (.slice (some ⟨v3.heap.size + 1, 0, none⟩) 1 1) (.slice none 0 0);generalize ((((w1).setCell ⟨w.heap.size, 0, none⟩ (.int .u8 99)).setCell ⟨w.heap.size, 1, none⟩ (.bool false)).setCell ⟨w.heap.size, 2, none⟩ (.slice (some ⟨v3.heap.size + 1, 0, none⟩) 1 1)).setCell ⟨w.heap.size, 3, none⟩ (.slice none 0 0) = v9 at *;have fr := Dr.f4;have fR := R.f;refine bodyPost_ret (v := ndV ⟨99, false, some ⟨v3.heap.size + 1, 0, none⟩, 1, 1, none, 0, 0⟩) (by simp [results, Tryz.results63, go_sem, fr]; try rfl) rfl ?_;exact ⟨⟨99, false, some ⟨v3.heap.size + 1, 0, none⟩, 1, 1, none, 0, 0⟩, _, _, _, _, _, rfl, R, P, rfl, rfl, rfl, 1, Or.inl ⟨[(x, x)], rfl, hset.keep (fun g hg => ⟨by have := hg.1; omega, Nat.lt_of_lt_of_le hg.2 X1.le⟩) (fun g hg => X1.same g hg.1 hg.2), by intro r hr; simp at hr; subst hr; exact h126, by rw [mask_one]⟩⟩
set_option maxHeartbeats 2000000 in
theorem ratom_s (b : Nat) (s : ByteArray) (l : List UInt8) (dz : Int) (k dp : Nat) (w : World) (R : Pa b s l (k : Int) dz 0 0 k dp w) (hk : k < l.length) (x : Nat) (hxx : Rx.pk l k = x) (h32 : 32 ≤ x) (h126 : x ≤ 126) (hsp : spB x = true) (hn : x ≠ 46 ∧ x ≠ 40 ∧ x ≠ 91 ∧ x ≠ 92) :
  Calls Tryz.prog 63 #[.pointer (some ⟨b, 0, none⟩)] w (NP b w s l dp (.bad 2 k)) := by
 have hsz : s.size = l.length := by rw [Lib.size_eq, R.txt]
 have hl := R.ll;have P := Kq.refl b w;have h1 : (k : Int) < (s.size : Int) := by omega
 have h2 : ¬ ((s.size : Int) ≤ (k : Int)) := by omega
 have h4 : decide ((s.size : Int) ≤ (k : Int)) = false := decide_eq_false h2;have h3 : (0 : Int) ≤ (k : Int) := by omega
 have hi : k < s.size := by omega
 have hx0 := pk_byteAt R.txt k hi;have hx : (s[k]'hi).toNat = x := by rw [hx0]; exact hxx
 clear hx0;obtain ⟨n1, n2, n3, n4⟩ := hn;have dlo : decide ((x : Int) < 32) = false := decide_eq_false (by omega);have dhi : decide (126 < (x : Int)) = false := decide_eq_false (by omega);have d46 : ((x : Int) == 46) = false := by rw [beq_eq_false_iff_ne]; omega
 have d40 : ((x : Int) == 40) = false := by rw [beq_eq_false_iff_ne]; omega
 have d91 : ((x : Int) == 91) = false := by rw [beq_eq_false_iff_ne]; omega
 have d92 : ((x : Int) == 92) = false := by rw [beq_eq_false_iff_ne]; omega
 have SP := Lib.hid (fun W => special_n x (by omega) W);rw [hsp] at SP;clear hxx n1 n2 n3 n4 hsp;have fR := R.f;go_enter Tryz.func63, Tryz.ntmps63
 go_wp2_with fail
 clear fR;have uR0 := R.cells.lt;have Dr := At.nwn _ (w) 0 false none 0 0 none 0 0 rfl;obtain ⟨R, P⟩ := (fun o => And.intro (R.alloc o) (P.alloc o)) (nC 0 false none 0 0 none 0 0);generalize (w).alloc (nC 0 false none 0 0 none 0 0) = v0 at *;have fr := Dr.f4;have fR := R.f;go_quiet (fail)
 clear fr fR;have Dr := (Dr.drewN nq);have R := (R.drewN nq);have P := (P.drewN nq);generalize (v0).drewN nq = v1 at *;have fr := Dr.f4;have fR := R.f;go_wp2_with fail
 go_quiet (fail)
 clear fr fR;have Dr := (Dr.drewN nq);have R := (R.drewN nq);have P := (P.drewN nq);generalize (v1).drewN nq = v2 at *;have fr := Dr.f4;have fR := R.f;go_wp2_with fail
 refine (SP.out _).mono ?_;rintro e w_ ⟨rfl, rfl⟩;go_wp2_with fail
 clear fr fR;have ltr := Dr.lt;have ltR := R.cells.lt;refine (pfail_any b s l _ _ _ _ _ _ _ _ R).mono ?_;rintro e w1 ⟨rfl, R2, P2⟩;have Dr := Dr.kq P2 (by omega);have P := P.trans P2;have P3 := P2;have R := R2;clear R2 P2;clear ltR ltr;have fr := Dr.f4;have fR := R.f;go_wp2
 clear fr fR;obtain ⟨Dr, R, P⟩ := (fun o0 o1 o2 o3 => And.intro (Dr.puts4 o0 o1 o2 o3) (And.intro (R.fars4 (w.heap.size) (by omega) o0 o1 o2 o3) (P.sets4 (w.heap.size) (by omega) o0 o1 o2 o3))) (.int .u8 0) (.bool false) (.slice none 0 0) (.slice none 0 0);generalize ((((w1).setCell ⟨w.heap.size, 0, none⟩ (.int .u8 0)).setCell ⟨w.heap.size, 1, none⟩ (.bool false)).setCell ⟨w.heap.size, 2, none⟩ (.slice none 0 0)).setCell ⟨w.heap.size, 3, none⟩ (.slice none 0 0) = v9 at *;have fr := Dr.f4;have fR := R.f;refine bodyPost_ret (v := ndV nd0) (by simp [results, Tryz.results63, go_sem, fr, nd0]; try rfl) rfl ?_;exact NP.nil R P (er := 2) (j := k) rfl (by rfl) (by decide)
set_option maxHeartbeats 2000000 in
theorem ratom_p (b : Nat) (s : ByteArray) (l : List UInt8) (dz : Int) (k dp : Nat) (w : World) (R : Pa b s l (k : Int) dz 0 0 k dp w) (hk : k < l.length) (hxx : Rx.pk l k = 40) (inner : Nat → Rx.Res Rx.Pt) (HG : GroupOK b s l dp inner) :
  Calls Tryz.prog 63 #[.pointer (some ⟨b, 0, none⟩)] w (NP b w s l dp (inner k)) := by
 have hsz : s.size = l.length := by rw [Lib.size_eq, R.txt]
 have hl := R.ll;have P := Kq.refl b w;have h1 : (k : Int) < (s.size : Int) := by omega
 have h2 : ¬ ((s.size : Int) ≤ (k : Int)) := by omega
 have h4 : decide ((s.size : Int) ≤ (k : Int)) = false := decide_eq_false h2;have h3 : (0 : Int) ≤ (k : Int) := by omega
 have hi : k < s.size := by omega
 have hx0 := pk_byteAt R.txt k hi;have hx : (s[k]'hi).toNat = 40 := by rw [hx0]; exact hxx
 clear hx0;have fR := R.f;go_enter Tryz.func63, Tryz.ntmps63
 go_wp2_with fail
 clear fR;have uR0 := R.cells.lt;have Dr := At.nwn _ (w) 0 false none 0 0 none 0 0 rfl;obtain ⟨R, P⟩ := (fun o => And.intro (R.alloc o) (P.alloc o)) (nC 0 false none 0 0 none 0 0);generalize (w).alloc (nC 0 false none 0 0 none 0 0) = v0 at *;have fr := Dr.f4;have fR := R.f;go_quiet (fail)
 clear fr fR;have Dr := (Dr.drewN nq);have R := (R.drewN nq);have P := (P.drewN nq);generalize (v0).drewN nq = v1 at *;have fr := Dr.f4;have fR := R.f;go_wp2_with fail
 go_quiet (fail)
 clear fr fR;have Dr := (Dr.drewN nq);have R := (R.drewN nq);have P := (P.drewN nq);generalize (v1).drewN nq = v2 at *;have fr := Dr.f4;have fR := R.f;go_wp2_with fail
 clear fr fR;have ltr := Dr.lt;have ltR := R.cells.lt;refine (HG _ _ k _ R hxx).mono ?_;rintro e w1 ⟨xn, z1, dz1, bad, pos, k1, rfl, R2, P2, hst⟩;have Dr := Dr.kq P2 (by omega);have P := P.trans P2;have P3 := P2;have R := R2;clear R2 P2;have ltRX1 := ltR;clear ltR;have ltrX1 := ltr;clear ltr;have X1 := Kx.refl (v2.heap.size) w1;have fr := Dr.f4;have fR := R.f;obtain ⟨xo, xb, sa, sl, sc, ka, kl, kc⟩ := xn;go_wp2
 clear fr fR;obtain ⟨Dr, R, P, X1⟩ := (fun o0 o1 o2 o3 => And.intro (Dr.puts4 o0 o1 o2 o3) (And.intro (R.fars4 (w.heap.size) (by omega) o0 o1 o2 o3) (And.intro (P.sets4 (w.heap.size) (by omega) o0 o1 o2 o3) (X1.sets4 (w.heap.size) (by omega) o0 o1 o2 o3)))) (.int .u8 xo) (.bool xb) (.slice sa sl sc) (.slice ka kl kc);generalize ((((w1).setCell ⟨w.heap.size, 0, none⟩ (.int .u8 xo)).setCell ⟨w.heap.size, 1, none⟩ (.bool xb)).setCell ⟨w.heap.size, 2, none⟩ (.slice sa sl sc)).setCell ⟨w.heap.size, 3, none⟩ (.slice ka kl kc) = v9 at *;have fr := Dr.f4;have fR := R.f;refine bodyPost_ret (v := ndV ⟨xo, xb, sa, sl, sc, ka, kl, kc⟩) (by simp [results, Tryz.results63, go_sem, fr]; try rfl) rfl ?_;refine ⟨⟨xo, xb, sa, sl, sc, ka, kl, kc⟩, _, _, _, _, _, rfl, R, P, ?_⟩;have hlo : w.heap.size ≤ v2.heap.size := by have := ltrX1; omega
 cases hrr : inner k with
 | bad er j => rw [hrr] at hst; exact hst
 | ok p j =>
  rw [hrr] at hst;obtain ⟨e1, e2, e3, d, hnd⟩ := hst;exact ⟨e1, e2, e3, d, hnd.keep (fun g hg => ⟨Nat.le_trans hlo hg.1, Nat.lt_of_lt_of_le hg.2 X1.le⟩) (fun g hg => X1.same g hg.1 hg.2)⟩
set_option maxHeartbeats 2000000 in
theorem ratom_q (b : Nat) (s : ByteArray) (l : List UInt8) (dz : Int) (k dp : Nat) (w : World) (R : Pa b s l (k : Int) dz 0 0 k dp w) (hk : k < l.length) (hxx : Rx.pk l k = 91) (HS : ∀ W, Pa b s l (k : Int) dz 0 0 k dp W → Calls Tryz.prog 83 #[.pointer (some ⟨b, 0, none⟩)] W (NP b W s l dp (Rx.setF l k))) :
  Calls Tryz.prog 63 #[.pointer (some ⟨b, 0, none⟩)] w (NP b w s l dp (Rx.setF l k)) := by
 have hsz : s.size = l.length := by rw [Lib.size_eq, R.txt]
 have hl := R.ll;have P := Kq.refl b w;have h1 : (k : Int) < (s.size : Int) := by omega
 have h2 : ¬ ((s.size : Int) ≤ (k : Int)) := by omega
 have h4 : decide ((s.size : Int) ≤ (k : Int)) = false := decide_eq_false h2;have h3 : (0 : Int) ≤ (k : Int) := by omega
 have hi : k < s.size := by omega
 have hx0 := pk_byteAt R.txt k hi;have hx : (s[k]'hi).toNat = 91 := by rw [hx0]; exact hxx
 clear hx0;have fR := R.f;go_enter Tryz.func63, Tryz.ntmps63
 go_wp2_with fail
 clear fR;have uR0 := R.cells.lt;have Dr := At.nwn _ (w) 0 false none 0 0 none 0 0 rfl;obtain ⟨R, P⟩ := (fun o => And.intro (R.alloc o) (P.alloc o)) (nC 0 false none 0 0 none 0 0);generalize (w).alloc (nC 0 false none 0 0 none 0 0) = v0 at *;have fr := Dr.f4;have fR := R.f;go_quiet (fail)
 clear fr fR;have Dr := (Dr.drewN nq);have R := (R.drewN nq);have P := (P.drewN nq);generalize (v0).drewN nq = v1 at *;have fr := Dr.f4;have fR := R.f;go_wp2_with fail
 go_quiet (fail)
 clear fr fR;have Dr := (Dr.drewN nq);have R := (R.drewN nq);have P := (P.drewN nq);generalize (v1).drewN nq = v2 at *;have fr := Dr.f4;have fR := R.f;go_wp2_with fail
 clear fr fR;have ltr := Dr.lt;have ltR := R.cells.lt;refine (HS _ R).mono ?_;rintro e w1 ⟨xn, z1, dz1, bad, pos, k1, rfl, R2, P2, hst⟩;have Dr := Dr.kq P2 (by omega);have P := P.trans P2;have P3 := P2;have R := R2;clear R2 P2;have ltRX1 := ltR;clear ltR;have ltrX1 := ltr;clear ltr;have X1 := Kx.refl (v2.heap.size) w1;have fr := Dr.f4;have fR := R.f;obtain ⟨xo, xb, sa, sl, sc, ka, kl, kc⟩ := xn;go_wp2
 clear fr fR;obtain ⟨Dr, R, P, X1⟩ := (fun o0 o1 o2 o3 => And.intro (Dr.puts4 o0 o1 o2 o3) (And.intro (R.fars4 (w.heap.size) (by omega) o0 o1 o2 o3) (And.intro (P.sets4 (w.heap.size) (by omega) o0 o1 o2 o3) (X1.sets4 (w.heap.size) (by omega) o0 o1 o2 o3)))) (.int .u8 xo) (.bool xb) (.slice sa sl sc) (.slice ka kl kc);generalize ((((w1).setCell ⟨w.heap.size, 0, none⟩ (.int .u8 xo)).setCell ⟨w.heap.size, 1, none⟩ (.bool xb)).setCell ⟨w.heap.size, 2, none⟩ (.slice sa sl sc)).setCell ⟨w.heap.size, 3, none⟩ (.slice ka kl kc) = v9 at *;have fr := Dr.f4;have fR := R.f;refine bodyPost_ret (v := ndV ⟨xo, xb, sa, sl, sc, ka, kl, kc⟩) (by simp [results, Tryz.results63, go_sem, fr]; try rfl) rfl ?_;refine ⟨⟨xo, xb, sa, sl, sc, ka, kl, kc⟩, _, _, _, _, _, rfl, R, P, ?_⟩;have hlo : w.heap.size ≤ v2.heap.size := by have := ltrX1; omega
 cases hrr : Rx.setF l k with
 | bad er j => rw [hrr] at hst; exact hst
 | ok p j =>
  rw [hrr] at hst;obtain ⟨e1, e2, e3, d, hnd⟩ := hst;exact ⟨e1, e2, e3, d, hnd.keep (fun g hg => ⟨Nat.le_trans hlo hg.1, Nat.lt_of_lt_of_le hg.2 X1.le⟩) (fun g hg => X1.same g hg.1 hg.2)⟩
set_option maxHeartbeats 2000000 in
theorem ratom_x (b : Nat) (s : ByteArray) (l : List UInt8) (dz : Int) (k dp : Nat) (w : World) (R : Pa b s l (k : Int) dz 0 0 k dp w) (hk : k < l.length) (hxx : Rx.pk l k = 92) (hc0 : ∀ c j, rxescR l k = .ok c j → c ≤ 126) :
  Calls Tryz.prog 63 #[.pointer (some ⟨b, 0, none⟩)] w (NP b w s l dp (mapLeaf (rxescR l k))) := by
 have hsz : s.size = l.length := by rw [Lib.size_eq, R.txt]
 have hl := R.ll;have P := Kq.refl b w;have h1 : (k : Int) < (s.size : Int) := by omega
 have h2 : ¬ ((s.size : Int) ≤ (k : Int)) := by omega
 have h4 : decide ((s.size : Int) ≤ (k : Int)) = false := decide_eq_false h2;have h3 : (0 : Int) ≤ (k : Int) := by omega
 have hi : k < s.size := by omega
 have hx0 := pk_byteAt R.txt k hi;have hx : (s[k]'hi).toNat = 92 := by rw [hx0]; exact hxx
 clear hx0;have fR := R.f;go_enter Tryz.func63, Tryz.ntmps63
 go_wp2_with fail
 clear fR;have uR0 := R.cells.lt;have Dr := At.nwn _ (w) 0 false none 0 0 none 0 0 rfl;obtain ⟨R, P⟩ := (fun o => And.intro (R.alloc o) (P.alloc o)) (nC 0 false none 0 0 none 0 0);generalize (w).alloc (nC 0 false none 0 0 none 0 0) = v0 at *;have fr := Dr.f4;have fR := R.f;go_quiet (fail)
 clear fr fR;have Dr := (Dr.drewN nq);have R := (R.drewN nq);have P := (P.drewN nq);generalize (v0).drewN nq = v1 at *;have fr := Dr.f4;have fR := R.f;go_wp2_with fail
 go_quiet (fail)
 clear fr fR;have Dr := (Dr.drewN nq);have R := (R.drewN nq);have P := (P.drewN nq);generalize (v1).drewN nq = v2 at *;have fr := Dr.f4;have fR := R.f;go_wp2_with fail
 clear fr fR;have ltr := Dr.lt;have ltR := R.cells.lt;refine (escaped_any b s l _ _ _ _ R hk).mono ?_;rintro e w1 ⟨xn, z1, dz1, bad, pos, k1, rfl, R2, P2, hst⟩;have Dr := Dr.kq P2 (by omega);have P := P.trans P2;have P3 := P2;have R := R2;clear R2 P2;have ltRX1 := ltR;clear ltR;have ltrX1 := ltr;clear ltr;have X1 := Kx.refl (v2.heap.size) w1;have fr := Dr.f4;have fR := R.f;obtain ⟨xo, xb, sa, sl, sc, ka, kl, kc⟩ := xn;go_wp2
 clear fr fR;obtain ⟨Dr, R, P, X1⟩ := (fun o0 o1 o2 o3 => And.intro (Dr.puts4 o0 o1 o2 o3) (And.intro (R.fars4 (w.heap.size) (by omega) o0 o1 o2 o3) (And.intro (P.sets4 (w.heap.size) (by omega) o0 o1 o2 o3) (X1.sets4 (w.heap.size) (by omega) o0 o1 o2 o3)))) (.int .u8 xo) (.bool xb) (.slice sa sl sc) (.slice ka kl kc);generalize ((((w1).setCell ⟨w.heap.size, 0, none⟩ (.int .u8 xo)).setCell ⟨w.heap.size, 1, none⟩ (.bool xb)).setCell ⟨w.heap.size, 2, none⟩ (.slice sa sl sc)).setCell ⟨w.heap.size, 3, none⟩ (.slice ka kl kc) = v9 at *;have fr := Dr.f4;have fR := R.f;refine bodyPost_ret (v := ndV ⟨xo, xb, sa, sl, sc, ka, kl, kc⟩) (by simp [results, Tryz.results63, go_sem, fr]; try rfl) rfl ?_;refine ⟨⟨xo, xb, sa, sl, sc, ka, kl, kc⟩, _, _, _, _, _, rfl, R, P, ?_⟩;have hlo : w.heap.size ≤ v2.heap.size := by have := ltrX1; omega
 cases hrr : rxescR l k with
 | bad er j => rw [hrr] at hst; exact hst
 | ok c j =>
  have hc := hc0 c j hrr;rw [hrr] at hst;obtain ⟨e1, e2, e3, e4, e5, e6, e7, hset⟩ := hst;subst e4 e5 e6 e7;exact ⟨e1, e2, e3, 1, Or.inl ⟨[(c, c)], rfl, hset.keep (fun g hg => ⟨Nat.le_trans hlo hg.1, Nat.lt_of_lt_of_le hg.2 X1.le⟩) (fun g hg => X1.same g hg.1 hg.2), by intro r hr; simp at hr; subst hr; exact hc, by rw [mask_one]⟩⟩
theorem ratom_any (b : Nat) (s : ByteArray) (l : List UInt8) (z dz : Int) (k dp : Nat) (w : World) (R : Pa b s l z dz 0 0 k dp w) (inner : Nat → Rx.Res Rx.Pt) (HG : GroupOK b s l dp inner)
  (HS : ∀ W, Pa b s l (k : Int) dz 0 0 k dp W → Rx.pk l k = 91 → Calls Tryz.prog 83 #[.pointer (some ⟨b, 0, none⟩)] W (NP b W s l dp (Rx.setF l k))) :
  Calls Tryz.prog 63 #[.pointer (some ⟨b, 0, none⟩)] w (NP b w s l dp (Rx.atomF inner l k)) := by
 obtain rfl := R.hk;by_cases hk : k < l.length
 ·
  by_cases h92 : Rx.pk l k = 92
  ·
   rw [atom_stroke inner l k h92];exact ratom_x b s l dz k dp w R hk h92 (fun c j h => by
    unfold rxescR at h;split at h
    ·
     cases h
    ·
     injection h with h1 h2; omega)
  unfold Rx.atomF;by_cases h40 : Rx.pk l k = 40
  ·
   rw [if_pos h40]; exact ratom_p b s l dz k dp w R hk h40 inner HG
  rw [if_neg h40];by_cases h91 : Rx.pk l k = 91
  ·
   rw [if_pos h91]; exact ratom_q b s l dz k dp w R hk h91 (fun W h => HS W h h91)
  rw [if_neg h91];by_cases h46 : Rx.pk l k = 46
  ·
   rw [if_pos h46]; exact ratom_d b s l dz k dp w R hk h46
  rw [if_neg h46];unfold Rx.singleF;rw [if_neg h92];have hb := sp_out _ (Rx.pk_byte l k);by_cases hr : Rx.pk l k < 32 ∨ 126 < Rx.pk l k ∨ Rx.inS Rx.outL (Rx.pk l k) = true
  ·
   rw [if_pos hr];by_cases h2 : Rx.pk l k < 32 ∨ 126 < Rx.pk l k
   ·
    exact ratom_b b s l dz k dp w R hk _ rfl h2
   ·
    have h3 : Rx.inS Rx.outL (Rx.pk l k) = true := by rcases hr with h | h | h; omega; omega; exact h
    exact ratom_s b s l dz k dp w R hk _ rfl (by omega) (by omega) (hb.2 (Or.inl h3)) ⟨h46, h40, h91, h92⟩
  ·
   rw [if_neg hr];exact ratom_g b s l dz k dp w R hk _ rfl (by omega) (by omega) (by rw [← Bool.not_eq_true, hb]; rintro (h | h); exact hr (Or.inr (Or.inr h)); exact h92 h) ⟨h46, h40, h91, h92⟩
 ·
  have hz := Rx.pk_end (l := l) (k := k) (by omega);unfold Rx.atomF Rx.singleF;rw [if_neg (by omega), if_neg (by omega), if_neg (by omega), if_neg (by omega), if_pos (by omega)];exact ratom_e b s l dz k dp w R (by omega)
end Go.Proofs.YthdoniefjmphaaaGreatDoor
