/- The reference: escaped, byte1. -/
import Derived.Test.YthdoniefjmphaaaGreatDoorRPat
import Derived.Maps.AppendAt
namespace Go.Proofs.YthdoniefjmphaaaGreatDoor
open Go Go.Proofs Go.RowKit Go.Shelf
set_option maxRecDepth 100000
attribute [local go_sem] cell_set ndV
theorem pk_byteAt {s : ByteArray} {l : List UInt8} (hud : s.data.toList = l) (k : Nat) (h : k < s.size) : (s[k]'h).toNat = Rx.pk l k := by
 have hcl := Lib.data_getElem? s k h;rw [hud] at hcl;unfold Rx.pk; rw [hcl]; rfl
def EscP (b : Nat) (w : World) (s : ByteArray) (l : List UInt8) (dp : Nat) (r : Rx.Res Nat) (e : Ending) (w' : World) : Prop :=
 ∃ (x : Nd) (z dz bad pos : Int) (k : Nat), e = .returned (ndV x) ∧ Pa b s l z dz bad pos k dp w' ∧ Kq b w w' ∧ match r with
  | .ok c j => k = j ∧ bad = 0 ∧ pos = 0 ∧ x.o = 99 ∧ x.n = false ∧ x.sl = 1 ∧ x.ka = none ∧ SetIs (Rng w w') w' x.sa 1 [(c, c)]
  | .bad er j => bad = (er : Int) ∧ pos = (j : Int) ∧ er ≠ 0
def rxescR (l : List UInt8) (k : Nat) : Rx.Res Nat := if Rx.pk l (k + 1) < 32 ∨ 126 < Rx.pk l (k + 1) then .bad 2 (k + 1) else .ok (Rx.pk l (k + 1)) (k + 2)
set_option maxHeartbeats 2000000 in
theorem escaped_e (b : Nat) (s : ByteArray) (l : List UInt8) (dz : Int) (k dp : Nat) (w : World) (R : Pa b s l (k : Int) dz 0 0 k dp w) (hk : k < l.length) (hend : l.length ≤ k + 1) :
  Calls Tryz.prog 84 #[.pointer (some ⟨b, 0, none⟩)] w (EscP b w s l dp (.bad 2 (k + 1))) := by
 have hsz : s.size = l.length := by rw [Lib.size_eq, R.txt]
 have hl := R.ll;have P := Kq.refl b w;have h2 : (s.size : Int) ≤ (k : Int) + 1 := by omega
 have fR := R.f;go_enter Tryz.func84, Tryz.ntmps84
 go_wp2_with fail
 clear fR;have uR0 := R.cells.lt;have Dr := At.nwn _ (w) 0 false none 0 0 none 0 0 rfl;obtain ⟨R, P⟩ := (fun o => And.intro (R.alloc o) (P.alloc o)) (nC 0 false none 0 0 none 0 0);generalize (w).alloc (nC 0 false none 0 0 none 0 0) = v0 at *;have fr := Dr.f4;have fR := R.f;go_quiet (fail)
 clear fr fR;have Dr := (Dr.drewN nq);have R := (R.drewN nq);have P := (P.drewN nq);generalize (v0).drewN nq = v1 at *;have fr := Dr.f4;have fR := R.f;go_wp2_with fail
 clear fr fR;have ltr := Dr.lt;have ltR := R.cells.lt;refine (pfail_any b s l _ _ _ _ _ _ _ _ R).mono ?_;rintro e w1 ⟨rfl, R2, P2⟩;have Dr := Dr.kq P2 (by omega);have P := P.trans P2;have P3 := P2;have R := R2;clear R2 P2;clear ltR ltr;have fr := Dr.f4;have fR := R.f;go_wp2
 clear fr fR;obtain ⟨Dr, R, P⟩ := (fun o0 o1 o2 o3 => And.intro (Dr.puts4 o0 o1 o2 o3) (And.intro (R.fars4 (w.heap.size) (by omega) o0 o1 o2 o3) (P.sets4 (w.heap.size) (by omega) o0 o1 o2 o3))) (.int .u8 0) (.bool false) (.slice none 0 0) (.slice none 0 0);generalize ((((w1).setCell ⟨w.heap.size, 0, none⟩ (.int .u8 0)).setCell ⟨w.heap.size, 1, none⟩ (.bool false)).setCell ⟨w.heap.size, 2, none⟩ (.slice none 0 0)).setCell ⟨w.heap.size, 3, none⟩ (.slice none 0 0) = v9 at *;have fr := Dr.f4;have fR := R.f;refine bodyPost_ret (v := ndV nd0) (by simp [results, Tryz.results84, go_sem, fr, nd0]; try rfl) rfl ?_;exact ⟨nd0, _, _, _, _, _, rfl, R, P, rfl, by omega, by decide⟩
set_option maxHeartbeats 2000000 in
theorem escaped_b (b : Nat) (s : ByteArray) (l : List UInt8) (dz : Int) (k dp : Nat) (w : World) (R : Pa b s l (k : Int) dz 0 0 k dp w) (hk : k < l.length) (hend : k + 1 < l.length) (x : Nat) (hxx : Rx.pk l (k + 1) = x) (hr : x < 32 ∨ 126 < x) :
  Calls Tryz.prog 84 #[.pointer (some ⟨b, 0, none⟩)] w (EscP b w s l dp (.bad 2 (k + 1))) := by
 have hsz : s.size = l.length := by rw [Lib.size_eq, R.txt]
 have hl := R.ll;have P := Kq.refl b w;have h1 : (k : Int) + 1 < (s.size : Int) := by omega
 have h2 : ¬ ((s.size : Int) ≤ (k : Int) + 1) := by omega
 have h3 : (0 : Int) ≤ (k : Int) + 1 := by omega
 have hi : k + 1 < s.size := by omega
 have e1 : ((k : Int) + 1).toNat = k + 1 := by omega
 have hx0 := pk_byteAt R.txt (k + 1) hi;have hx : (s[k + 1]'hi).toNat = x := by rw [hx0]; exact hxx
 clear hx0 hxx;have q : (decide ((x : Int) < 32) || decide (126 < (x : Int))) = true := by simp; omega
 have fR := R.f;go_enter Tryz.func84, Tryz.ntmps84
 go_wp2_with fail
 clear fR;have uR0 := R.cells.lt;have Dr := At.nwn _ (w) 0 false none 0 0 none 0 0 rfl;obtain ⟨R, P⟩ := (fun o => And.intro (R.alloc o) (P.alloc o)) (nC 0 false none 0 0 none 0 0);generalize (w).alloc (nC 0 false none 0 0 none 0 0) = v0 at *;have fr := Dr.f4;have fR := R.f;go_quiet (fail)
 clear fr fR;have Dr := (Dr.drewN nq);have R := (R.drewN nq);have P := (P.drewN nq);generalize (v0).drewN nq = v1 at *;have fr := Dr.f4;have fR := R.f;go_wp2_with fail
 go_quiet (fail)
 clear fr fR;have Dr := (Dr.drewN nq);have R := (R.drewN nq);have P := (P.drewN nq);generalize (v1).drewN nq = v2 at *;have fr := Dr.f4;have fR := R.f;go_wp2_with fail
 all_goals
  clear fr fR;have ltr := Dr.lt;have ltR := R.cells.lt;refine (pfail_any b s l _ _ _ _ _ _ _ _ R).mono ?_;rintro e w1 ⟨rfl, R2, P2⟩;have Dr := Dr.kq P2 (by omega);have P := P.trans P2;have P3 := P2;have R := R2;clear R2 P2;clear ltR ltr;have fr := Dr.f4;have fR := R.f;go_wp2
  clear fr fR;obtain ⟨Dr, R, P⟩ := (fun o0 o1 o2 o3 => And.intro (Dr.puts4 o0 o1 o2 o3) (And.intro (R.fars4 (w.heap.size) (by omega) o0 o1 o2 o3) (P.sets4 (w.heap.size) (by omega) o0 o1 o2 o3))) (.int .u8 0) (.bool false) (.slice none 0 0) (.slice none 0 0);generalize ((((w1).setCell ⟨w.heap.size, 0, none⟩ (.int .u8 0)).setCell ⟨w.heap.size, 1, none⟩ (.bool false)).setCell ⟨w.heap.size, 2, none⟩ (.slice none 0 0)).setCell ⟨w.heap.size, 3, none⟩ (.slice none 0 0) = v9 at *;have fr := Dr.f4;have fR := R.f;refine bodyPost_ret (v := ndV nd0) (by simp [results, Tryz.results84, go_sem, fr, nd0]; try rfl) rfl ?_;exact ⟨nd0, _, _, _, _, _, rfl, R, P, rfl, by omega, by decide⟩
set_option maxHeartbeats 2000000 in
theorem escaped_g (b : Nat) (s : ByteArray) (l : List UInt8) (dz : Int) (k dp : Nat) (w : World) (R : Pa b s l (k : Int) dz 0 0 k dp w) (hk : k < l.length) (hend : k + 1 < l.length) (x : Nat) (hxx : Rx.pk l (k + 1) = x) (hr : ¬ (x < 32 ∨ 126 < x)) :
  Calls Tryz.prog 84 #[.pointer (some ⟨b, 0, none⟩)] w (EscP b w s l dp (.ok x (k + 2))) := by
 have hsz : s.size = l.length := by rw [Lib.size_eq, R.txt]
 have hl := R.ll;have P := Kq.refl b w;have h1 : (k : Int) + 1 < (s.size : Int) := by omega
 have h2 : ¬ ((s.size : Int) ≤ (k : Int) + 1) := by omega
 have h3 : (0 : Int) ≤ (k : Int) + 1 := by omega
 have hi : k + 1 < s.size := by omega
 have e1 : ((k : Int) + 1).toNat = k + 1 := by omega
 have hx0 := pk_byteAt R.txt (k + 1) hi;have hx : (s[k + 1]'hi).toNat = x := by rw [hx0]; exact hxx
 clear hx0 hxx;have q : (decide ((x : Int) < 32) || decide (126 < (x : Int))) = false := by simp; omega
 have fR := R.f;go_enter Tryz.func84, Tryz.ntmps84
 go_wp2_with fail
 clear fR;have uR0 := R.cells.lt;have Dr := At.nwn _ (w) 0 false none 0 0 none 0 0 rfl;obtain ⟨R, P⟩ := (fun o => And.intro (R.alloc o) (P.alloc o)) (nC 0 false none 0 0 none 0 0);generalize (w).alloc (nC 0 false none 0 0 none 0 0) = v0 at *;have fr := Dr.f4;have fR := R.f;go_quiet (fail)
 clear fr fR;have Dr := (Dr.drewN nq);have R := (R.drewN nq);have P := (P.drewN nq);generalize (v0).drewN nq = v1 at *;have fr := Dr.f4;have fR := R.f;go_wp2_with fail
 go_quiet (fail)
 clear fr fR;have Dr := (Dr.drewN nq);have R := (R.drewN nq);have P := (P.drewN nq);generalize (v1).drewN nq = v2 at *;have fr := Dr.f4;have fR := R.f;go_wp2_with fail
 clear fr fR;have Dr := (Dr.far (b' := b) (j := 1) (by omega) (.int .i64 ((k : Int) + 2)));have R := (R.move (z' := (k : Int) + 2) (k' := k + 2) (by omega) (by omega));have P := (P.setCell (p := ⟨b, 1, none⟩) (.inr rfl) (.int .i64 ((k : Int) + 2)));generalize (v2).setCell ⟨b, 1, none⟩ (.int .i64 ((k : Int) + 2)) = v3 at *;have fr := Dr.f4;have fR := R.f;clear fr fR;refine (rone_any x _).mono ?_;rintro e w1 ⟨rfl, hb1, hsz1, hset⟩;have ltrX1 := Dr.lt;have ltRX1 := R.cells.lt;have Dr := Dr.below hb1;have R := R.below hb1;have P := P.below hb1;clear hb1;have X1 := Kx.refl (v3.heap.size) w1;have fr := Dr.f4;have fR := R.f;go_wp2
 clear fr fR;obtain ⟨Dr, R, P, X1⟩ := (fun o0 o1 o2 o3 => And.intro (Dr.puts4 o0 o1 o2 o3) (And.intro (R.fars4 (w.heap.size) (by omega) o0 o1 o2 o3) (And.intro (P.sets4 (w.heap.size) (by omega) o0 o1 o2 o3) (X1.sets4 (w.heap.size) (by omega) o0 o1 o2 o3)))) (.int .u8 99) (.bool false) (.slice (some ⟨v3.heap.size + 1, 0, none⟩) 1 1) (.slice none 0 0);generalize ((((w1).setCell ⟨w.heap.size, 0, none⟩ (.int .u8 99)).setCell ⟨w.heap.size, 1, none⟩ (.bool false)).setCell ⟨w.heap.size, 2, none⟩ (.slice (some ⟨v3.heap.size + 1, 0, none⟩) 1 1)).setCell ⟨w.heap.size, 3, none⟩ (.slice none 0 0) = v9 at *;have fr := Dr.f4;have fR := R.f;refine bodyPost_ret (v := ndV ⟨99, false, some ⟨v3.heap.size + 1, 0, none⟩, 1, 1, none, 0, 0⟩) (by simp [results, Tryz.results84, go_sem, fr]; try rfl) rfl ?_;exact ⟨⟨99, false, some ⟨v3.heap.size + 1, 0, none⟩, 1, 1, none, 0, 0⟩, _, _, _, _, _, rfl, R, P, rfl, rfl, rfl, rfl, rfl, rfl, rfl, hset.keep (fun g hg => ⟨by have := hg.1; omega, Nat.lt_of_lt_of_le hg.2 X1.le⟩) (fun g hg => X1.same g hg.1 hg.2)⟩
theorem escaped_any (b : Nat) (s : ByteArray) (l : List UInt8) (dz : Int) (k dp : Nat) (w : World) (R : Pa b s l (k : Int) dz 0 0 k dp w) (hk : k < l.length) :
  Calls Tryz.prog 84 #[.pointer (some ⟨b, 0, none⟩)] w (EscP b w s l dp (rxescR l k)) := by
 unfold rxescR;by_cases hend : k + 1 < l.length
 ·
  split
  ·
   exact escaped_b b s l dz k dp w R hk hend _ rfl (by assumption)
  ·
   exact escaped_g b s l dz k dp w R hk hend _ rfl (by assumption)
 ·
  have hz := Rx.pk_end (l := l) (k := k + 1) (by omega);rw [if_pos (by omega)];exact escaped_e b s l dz k dp w R hk (by omega)
end Go.Proofs.YthdoniefjmphaaaGreatDoor
/- The reference: byte1. -/
namespace Go.Proofs.YthdoniefjmphaaaGreatDoor
open Go Go.Proofs Go.RowKit Go.Shelf
set_option maxRecDepth 100000
attribute [local go_sem] cell_set ndV
def B1P (b : Nat) (w : World) (s : ByteArray) (l : List UInt8) (dp k0 : Nat) (r : Rx.Res Nat) (e : Ending) (w' : World) : Prop :=
 ∃ (v : Nat) (z dz bad pos : Int) (k : Nat), e = .returned (.tuple #[.int .u8 (v : Int), .int .i64 (k0 : Int)]) ∧ Pa b s l z dz bad pos k dp w' ∧ Kq b w w' ∧ match r with
  | .ok c j => v = c ∧ k = j ∧ bad = 0 ∧ pos = 0
  | .bad er j => bad = (er : Int) ∧ pos = (j : Int) ∧ er ≠ 0
set_option maxHeartbeats 2000000 in
theorem byte1_e (b : Nat) (s : ByteArray) (l : List UInt8) (dz : Int) (k dp : Nat) (w : World) (R : Pa b s l (k : Int) dz 0 0 k dp w) (hend : l.length ≤ k) :
  Calls Tryz.prog 104 #[.pointer (some ⟨b, 0, none⟩)] w (B1P b w s l dp k (.bad 2 k)) := by
 have hsz : s.size = l.length := by rw [Lib.size_eq, R.txt]
 have hl := R.ll;have P := Kq.refl b w;have h2 : (s.size : Int) ≤ (k : Int) := by omega
 have fR := R.f;go_enter Tryz.func104, Tryz.ntmps104
 go_wp2_with fail
 clear fR;have ltR := R.cells.lt;refine (pfail_any b s l _ _ _ _ _ _ _ _ R).mono ?_;rintro e w1 ⟨rfl, R2, P2⟩;have P := P.trans P2;have P3 := P2;have R := R2;clear R2 P2;clear ltR;have fR := R.f;go_wp2
 go_ret2
 exact ⟨0, _, _, _, _, _, rfl, R, P, rfl, by have := R.kl; omega, by decide⟩
set_option maxHeartbeats 2000000 in
theorem byte1_b (b : Nat) (s : ByteArray) (l : List UInt8) (dz : Int) (k dp : Nat) (w : World) (R : Pa b s l (k : Int) dz 0 0 k dp w) (hk : k < l.length) (x : Nat) (hxx : Rx.pk l k = x) (hr : (x < 32) ∨ 126 < x ∨ x = 93 ∨ x = 45 ∨ x = 94) :
  Calls Tryz.prog 104 #[.pointer (some ⟨b, 0, none⟩)] w (B1P b w s l dp k (.bad 2 k)) := by
 have hsz : s.size = l.length := by rw [Lib.size_eq, R.txt]
 have hl := R.ll;have P := Kq.refl b w;have h1 : (k : Int) < (s.size : Int) := by omega
 have h2 : ¬ ((s.size : Int) ≤ (k : Int)) := by omega
 have h3 : (0 : Int) ≤ (k : Int) := by omega
 have hi : k < s.size := by omega
 have hx0 := pk_byteAt R.txt k hi;have hx : (s[k]'hi).toNat = x := by rw [hx0]; exact hxx
 clear hx0;have d9 : ((x : Int) == 92) = false := by rw [beq_eq_false_iff_ne]; omega
 clear hxx;rcases hr with hr | hr | hr | hr | hr
 ·
  have d0 : decide ((x : Int) < 32) = true := decide_eq_true (by omega);have d1 : decide (126 < (x : Int)) = false := decide_eq_false (by omega);have d2 : ((x : Int) == 93) = false := by rw [beq_eq_false_iff_ne]; omega
  have d3 : ((x : Int) == 45) = false := by rw [beq_eq_false_iff_ne]; omega
  have d4 : ((x : Int) == 94) = false := by rw [beq_eq_false_iff_ne]; omega
  clear hr;have fR := R.f;go_enter Tryz.func104, Tryz.ntmps104
  go_wp2_with fail
  clear fR;have ltR := R.cells.lt;refine (pfail_any b s l _ _ _ _ _ _ _ _ R).mono ?_;rintro e w1 ⟨rfl, R2, P2⟩;have P := P.trans P2;have P3 := P2;have R := R2;clear R2 P2;clear ltR;have fR := R.f;go_wp2
  go_ret2
  exact ⟨0, _, _, _, _, _, rfl, R, P, rfl, rfl, by decide⟩
 ·
  have d0 : decide ((x : Int) < 32) = false := decide_eq_false (by omega);have d1 : decide (126 < (x : Int)) = true := decide_eq_true (by omega);have d2 : ((x : Int) == 93) = false := by rw [beq_eq_false_iff_ne]; omega
  have d3 : ((x : Int) == 45) = false := by rw [beq_eq_false_iff_ne]; omega
  have d4 : ((x : Int) == 94) = false := by rw [beq_eq_false_iff_ne]; omega
  clear hr;have fR := R.f;go_enter Tryz.func104, Tryz.ntmps104
  go_wp2_with fail
  clear fR;have ltR := R.cells.lt;refine (pfail_any b s l _ _ _ _ _ _ _ _ R).mono ?_;rintro e w1 ⟨rfl, R2, P2⟩;have P := P.trans P2;have P3 := P2;have R := R2;clear R2 P2;clear ltR;have fR := R.f;go_wp2
  go_ret2
  exact ⟨0, _, _, _, _, _, rfl, R, P, rfl, rfl, by decide⟩
 ·
  have d0 : decide ((x : Int) < 32) = false := decide_eq_false (by omega);have d1 : decide (126 < (x : Int)) = false := decide_eq_false (by omega);have d2 : ((x : Int) == 93) = true := by rw [beq_iff_eq]; omega
  have d3 : ((x : Int) == 45) = false := by rw [beq_eq_false_iff_ne]; omega
  have d4 : ((x : Int) == 94) = false := by rw [beq_eq_false_iff_ne]; omega
  clear hr;have fR := R.f;go_enter Tryz.func104, Tryz.ntmps104
  go_wp2_with fail
  clear fR;have ltR := R.cells.lt;refine (pfail_any b s l _ _ _ _ _ _ _ _ R).mono ?_;rintro e w1 ⟨rfl, R2, P2⟩;have P := P.trans P2;have P3 := P2;have R := R2;clear R2 P2;clear ltR;have fR := R.f;go_wp2
  go_ret2
  exact ⟨0, _, _, _, _, _, rfl, R, P, rfl, rfl, by decide⟩
 ·
  have d0 : decide ((x : Int) < 32) = false := decide_eq_false (by omega);have d1 : decide (126 < (x : Int)) = false := decide_eq_false (by omega);have d2 : ((x : Int) == 93) = false := by rw [beq_eq_false_iff_ne]; omega
  have d3 : ((x : Int) == 45) = true := by rw [beq_iff_eq]; omega
  have d4 : ((x : Int) == 94) = false := by rw [beq_eq_false_iff_ne]; omega
  clear hr;have fR := R.f;go_enter Tryz.func104, Tryz.ntmps104
  go_wp2_with fail
  clear fR;have ltR := R.cells.lt;refine (pfail_any b s l _ _ _ _ _ _ _ _ R).mono ?_;rintro e w1 ⟨rfl, R2, P2⟩;have P := P.trans P2;have P3 := P2;have R := R2;clear R2 P2;clear ltR;have fR := R.f;go_wp2
  go_ret2
  exact ⟨0, _, _, _, _, _, rfl, R, P, rfl, rfl, by decide⟩
 ·
  have d0 : decide ((x : Int) < 32) = false := decide_eq_false (by omega);have d1 : decide (126 < (x : Int)) = false := decide_eq_false (by omega);have d2 : ((x : Int) == 93) = false := by rw [beq_eq_false_iff_ne]; omega
  have d3 : ((x : Int) == 45) = false := by rw [beq_eq_false_iff_ne]; omega
  have d4 : ((x : Int) == 94) = true := by rw [beq_iff_eq]; omega
  clear hr;have fR := R.f;go_enter Tryz.func104, Tryz.ntmps104
  go_wp2_with fail
  clear fR;have ltR := R.cells.lt;refine (pfail_any b s l _ _ _ _ _ _ _ _ R).mono ?_;rintro e w1 ⟨rfl, R2, P2⟩;have P := P.trans P2;have P3 := P2;have R := R2;clear R2 P2;clear ltR;have fR := R.f;go_wp2
  go_ret2
  exact ⟨0, _, _, _, _, _, rfl, R, P, rfl, rfl, by decide⟩
set_option maxHeartbeats 2000000 in
theorem byte1_g (b : Nat) (s : ByteArray) (l : List UInt8) (dz : Int) (k dp : Nat) (w : World) (R : Pa b s l (k : Int) dz 0 0 k dp w) (hk : k < l.length) (x : Nat) (hxx : Rx.pk l k = x) (h9 : x ≠ 92) (hr : ¬ ((x < 32) ∨ 126 < x ∨ x = 93 ∨ x = 45 ∨ x = 94)) :
  Calls Tryz.prog 104 #[.pointer (some ⟨b, 0, none⟩)] w (B1P b w s l dp k (.ok x (k + 1))) := by
 have hsz : s.size = l.length := by rw [Lib.size_eq, R.txt]
 have hl := R.ll;have P := Kq.refl b w;have h1 : (k : Int) < (s.size : Int) := by omega
 have h2 : ¬ ((s.size : Int) ≤ (k : Int)) := by omega
 have h3 : (0 : Int) ≤ (k : Int) := by omega
 have hi : k < s.size := by omega
 have hx0 := pk_byteAt R.txt k hi;have hx : (s[k]'hi).toNat = x := by rw [hx0]; exact hxx
 clear hx0;have d9 : ((x : Int) == 92) = false := by rw [beq_eq_false_iff_ne]; omega
 clear hxx;have d0 : decide ((x : Int) < 32) = false := decide_eq_false (by omega);have d1 : decide (126 < (x : Int)) = false := decide_eq_false (by omega);have d2 : ((x : Int) == 93) = false := by rw [beq_eq_false_iff_ne]; omega
 have d3 : ((x : Int) == 45) = false := by rw [beq_eq_false_iff_ne]; omega
 have d4 : ((x : Int) == 94) = false := by rw [beq_eq_false_iff_ne]; omega
 clear hr;have fR := R.f;go_enter Tryz.func104, Tryz.ntmps104
 go_wp2_with fail
 clear fR;have R := (R.move (z' := (k : Int) + 1) (k' := k + 1) (by omega) (by omega));have P := (P.setCell (p := ⟨b, 1, none⟩) (.inr rfl) (.int .i64 ((k : Int) + 1)));go_ret2
 exact ⟨x, _, _, _, _, _, rfl, R, P, rfl, rfl, rfl, rfl⟩
set_option maxHeartbeats 2000000 in
theorem byte1_s (b : Nat) (s : ByteArray) (l : List UInt8) (dz : Int) (k dp : Nat) (w : World) (R : Pa b s l (k : Int) dz 0 0 k dp w) (hk : k < l.length) (hxx : Rx.pk l k = 92) :
  Calls Tryz.prog 104 #[.pointer (some ⟨b, 0, none⟩)] w (B1P b w s l dp k (rxescR l k)) := by
 have hsz : s.size = l.length := by rw [Lib.size_eq, R.txt]
 have hl := R.ll;have P := Kq.refl b w;have h1 : (k : Int) < (s.size : Int) := by omega
 have h2 : ¬ ((s.size : Int) ≤ (k : Int)) := by omega
 have h3 : (0 : Int) ≤ (k : Int) := by omega
 have hi : k < s.size := by omega
 have hx0 := pk_byteAt R.txt k hi;have hx : (s[k]'hi).toNat = 92 := by rw [hx0]; exact hxx
 clear hx0 hxx;have HC := fun (W : World) (R : Pa b s l (k : Int) dz 0 0 k dp W) => escaped_any b s l dz k dp W R hk
 cases he : rxescR l k with
 | bad er j =>
  rw [he] at HC;have HC := Lib.hid HC;clear he;have fR := R.f;go_enter Tryz.func104, Tryz.ntmps104
  go_wp2_with fail
  clear fR;have ltR := R.cells.lt;refine (HC.out _ R).mono ?_;rintro e w1 ⟨xn, z1, dz1, bad, pos, k1, rfl, R2, P2, hst⟩;have P := P.trans P2;have P3 := P2;have R := R2;clear R2 P2;clear ltR;have fR := R.f;obtain ⟨xo, xb, sa, sl, sc, ka, kl, kc⟩ := xn;obtain ⟨rfl, rfl, hne⟩ := hst;have hne2 : ((er : Int) != 0) = true := by rw [bne_iff_ne]; omega
  go_wp2
  go_ret2
  exact ⟨0, _, _, _, _, _, rfl, R.alloc _, P.alloc _, rfl, rfl, hne⟩
 | ok c j =>
  rw [he] at HC;have HC := Lib.hid HC;clear he;have fR := R.f;go_enter Tryz.func104, Tryz.ntmps104
  go_wp2_with fail
  clear fR;have ltR := R.cells.lt;refine (HC.out _ R).mono ?_;rintro e w1 ⟨xn, z1, dz1, bad, pos, k1, rfl, R2, P2, hst⟩;have P := P.trans P2;have P3 := P2;have R := R2;clear R2 P2;clear ltR;have fR := R.f;obtain ⟨xo, xb, sa, sl, sc, ka, kl, kc⟩ := xn;obtain ⟨rfl, rfl, rfl, rfl, rfl, rfl, rfl, hset⟩ := hst;obtain ⟨-, -, g, rfl, hg, hc⟩ := hset;have c0 := (hc 0 _ rfl).1;have hgl := hg.2;rw [Nat.zero_mul] at c0;clear hc hg;dsimp only at c0;go_wp2
  go_ret2
  exact ⟨c, _, _, _, _, _, rfl, R.alloc _, P.alloc _, rfl, rfl, rfl, rfl⟩
theorem esc_single {sp l : List UInt8} {k : Nat} (h : Rx.pk l k = 92) : Rx.singleF sp l k = rxescR l k := by unfold Rx.singleF rxescR; rw [if_pos h]
set_option maxRecDepth 100000 in
theorem in_set (x : Nat) (hx : x < 256) : Rx.inS Rx.inL x = true ↔ x = 93 ∨ x = 45 ∨ x = 94 := by
 have key : ∀ y : Fin 256, (Rx.inS Rx.inL y.val = true ↔ y.val = 93 ∨ y.val = 45 ∨ y.val = 94) := by decide +kernel
 exact key ⟨x, hx⟩
theorem byte1_any (b : Nat) (s : ByteArray) (l : List UInt8) (z dz : Int) (k dp : Nat) (w : World) (R : Pa b s l z dz 0 0 k dp w) :
  Calls Tryz.prog 104 #[.pointer (some ⟨b, 0, none⟩)] w (B1P b w s l dp k (Rx.singleF Rx.inL l k)) := by
 obtain rfl := R.hk;by_cases hk : k < l.length
 ·
  by_cases h9 : Rx.pk l k = 92
  ·
   rw [esc_single h9]; exact byte1_s b s l dz k dp w R hk h9
  ·
   have hb := in_set _ (Rx.pk_byte l k);unfold Rx.singleF;rw [if_neg h9];by_cases hr : Rx.pk l k < 32 ∨ 126 < Rx.pk l k ∨ Rx.inS Rx.inL (Rx.pk l k) = true
   ·
    rw [if_pos hr]; exact byte1_b b s l dz k dp w R hk _ rfl (by rw [hb] at hr; exact hr)
   ·
    rw [if_neg hr]; exact byte1_g b s l dz k dp w R hk _ rfl h9 (by rw [hb] at hr; exact hr)
 ·
  have hz := Rx.pk_end (l := l) (k := k) (by omega);unfold Rx.singleF;rw [if_neg (by omega), if_pos (by omega)];exact byte1_e b s l dz k dp w R (by omega)
end Go.Proofs.YthdoniefjmphaaaGreatDoor
/- What the reference's reader owns while it makes a node: its set's bytes, its kids. -/
namespace Go.Proofs.YthdoniefjmphaaaGreatDoor
open Go Go.Proofs Go.RowKit Go.Shelf
set_option maxRecDepth 100000
theorem own_below {w w' : World} {base n sz : Nat} {e : TypeId} {v : Value} {xs : List Value} (h : w.ownsRow base e sz v n xs) (hb : Below w.heap.size w w') : w'.ownsRow base e sz v n xs := ownsRow_same h fun g q => hb.block g (h.lt g q).2
theorem own_kq {w w' : World} {b base n sz : Nat} {e : TypeId} {v : Value} {xs : List Value} (h : w.ownsRow base e sz v n xs) (k : Kq b w w') (hb : b < base) : w'.ownsRow base e sz v n xs := ownsRow_same h fun g q => k.block g (h.lt g q).2 (by have := (h.lt g q).1; omega)
theorem own_set {w : World} {base n sz : Nat} {e : TypeId} {v : Value} {xs : List Value} (h : w.ownsRow base e sz v n xs) {p : Addr} (hp : p.block < base) (u : Value) : (w.setCell p u).ownsRow base e sz v n xs := ownsRow_same h fun g q => Below.heap_setCell _ _ _ _ (by have := (h.lt g q).1; omega)
theorem rxcells2_new (W : World) (u v : Value) (T : TypeId) : ∀ j x, [u, v][j]? = some x → (W.alloc (.cells #[u, v] T)).cell? ((⟨W.heap.size, 0, none⟩ : Addr).add j) = some x := by
 intro j x h;rw [Addr.add_lit, Nat.zero_add];have k := At.new W #[u, v] T;exact k.cell j x h
theorem cells4_new (W : World) (u v x y : Value) (T : TypeId) : ∀ j z, [u, v, x, y][j]? = some z → (W.alloc (.cells #[u, v, x, y] T)).cell? ((⟨W.heap.size, 0, none⟩ : Addr).add j) = some z := by
 intro j z h;rw [Addr.add_lit, Nat.zero_add];have k := At.new W #[u, v, x, y] T;exact k.cell j z h
def byC : List (Nat × Nat) → List Value
 | [] => []
 | r :: t => .int .u8 (r.1 : Int) :: .int .u8 (r.2 : Int) :: byC t
theorem byC_append (a b : List (Nat × Nat)) : byC (a ++ b) = byC a ++ byC b := by
 induction a with
 | nil => rfl
 | cons r t ih => rw [List.cons_append, byC, byC, ih]; rfl
theorem byC_get (rs : List (Nat × Nat)) : ∀ (j : Nat) (r : Nat × Nat), rs[j]? = some r → (byC rs)[j * 2]? = some (.int .u8 (r.1 : Int)) ∧ (byC rs)[j * 2 + 1]? = some (.int .u8 (r.2 : Int)) := by
 induction rs with
 | nil => intro j r h; cases h
 | cons d t ih =>
  intro j r h;cases j with
  | zero => simp at h; subst h; exact ⟨rfl, rfl⟩
  | succ j =>
   have := ih j r (by simpa using h);rw [show (j + 1) * 2 = j * 2 + 1 + 1 from by omega, byC];exact ⟨by simpa using this.1, by simpa using this.2⟩
structure Bts (base : Nat) (w : World) (a : Option Addr) (n c : Nat) (rs : List (Nat × Nat)) : Prop where
 hn : n = rs.length
 own : w.ownsRow base 147 2 (.slice a n c) n (byC rs)
 len : n ≤ 70
section
variable {base b : Nat} {w w' : World} {a : Option Addr} {n c : Nat} {rs : List (Nat × Nat)}
theorem Bts.below (h : Bts base w a n c rs) (hb : Below w.heap.size w w') : Bts base w' a n c rs := ⟨h.hn, own_below h.own hb, h.len⟩
theorem Bts.kq (h : Bts base w a n c rs) (k : Kq b w w') (hb : b < base) : Bts base w' a n c rs := ⟨h.hn, own_kq h.own k hb, h.len⟩
theorem Bts.alloc (h : Bts base w a n c rs) (o : Obj) : Bts base (w.alloc o) a n c rs := ⟨h.hn, h.own.alloc o, h.len⟩
theorem Bts.drewN (h : Bts base w a n c rs) (q : Nat) : Bts base (w.drewN q) a n c rs := h.below (rxbelow_dN (Below.refl _ _) q)
theorem Bts.setCell (h : Bts base w a n c rs) {p : Addr} (hp : p.block < base) (u : Value) : Bts base (w.setCell p u) a n c rs := ⟨h.hn, own_set h.own hp u, h.len⟩
theorem Bts.nil (w : World) (base : Nat) : Bts base w none 0 0 [] := ⟨rfl, World.ownsRow_nil _ _ _ _, by simp⟩
theorem Bts.lt (h : Bts base w a n c rs) : ∀ g, (Value.slice a n c).ownBlock = some g → base ≤ g ∧ g < w.heap.size := h.own.lt
theorem Bts.snoc (h : Bts base w a n c rs) {a' : Option Addr} {c' : Nat} (x y : Nat) (hown : w'.ownsRow base 147 2 (.slice a' (n + 1) c') (n + 1) (byC rs ++ [.int .u8 (x : Int), .int .u8 (y : Int)])) (hl : n < 70) : Bts base w' a' (n + 1) c' (rs ++ [(x, y)]) :=
 ⟨by rw [List.length_append, ← h.hn]; rfl, by rw [byC_append]; exact hown, by omega⟩
theorem Bts.is (h : Bts base w a n c rs) (hn : 0 < n) : SetIs (fun x => base ≤ x ∧ x < w.heap.size) w a n rs := by
 obtain ⟨g, cap, e, h1, h2⟩ := h.own.form hn;injection e with e1 e2 e3
 subst e1 e3;refine ⟨h.hn, ⟨hn, h.len⟩, g, rfl, ⟨h1, h2⟩, fun j r hj => ?_⟩;have hlt : j < rs.length := (List.getElem?_eq_some_iff.1 hj).1;have hnn := h.hn;obtain ⟨c1, c2⟩ := byC_get rs j r hj;exact ⟨(h.own.cellAt' (by omega)).trans c1, (h.own.cellAt' (by omega)).trans c2⟩
end
def ndL : List Nd → List Value
 | [] => []
 | y :: t => ndC y ++ ndL t
theorem ndL_append (a b : List Nd) : ndL (a ++ b) = ndL a ++ ndL b := by
 induction a with
 | nil => rfl
 | cons r t ih => rw [List.cons_append, ndL, ndL, ih, List.append_assoc]
theorem ndL_get (ys : List Nd) : ∀ (j i : Nat) (y : Nd) (v : Value), ys[j]? = some y → (ndC y)[i]? = some v → (ndL ys)[j * 4 + i]? = some v := by
 induction ys with
 | nil => intro j i y v h; cases h
 | cons d t ih =>
  intro j i y v h hv;cases j with
  | zero =>
   simp at h; subst h;have hi : i < (ndC d).length := (List.getElem?_eq_some_iff.1 hv).1;rw [ndL, List.getElem?_append_left (by omega)];simpa using hv
  | succ j =>
   rw [ndL, List.getElem?_append_right (by show 4 ≤ _; omega)];have := ih j i y v (by simpa using h) hv;rw [show (j + 1) * 4 + i - (ndC d).length = j * 4 + i from by show (j + 1) * 4 + i - 4 = _; omega];exact this
structure Kidz (base : Nat) (w : World) (a : Option Addr) (n c d : Nat) (ys : List Nd) (ps : List Rx.Pt) : Prop where
 hn : n = ys.length
 own : w.ownsRow base 55 4 (.slice a n c) n (ndL ys)
 len : n = ps.length
 few : n ≤ 70
 kid : ∀ (j : Nat) (y : Nd) (p : Rx.Pt), ys[j]? = some y → ps[j]? = some p → NodeIs (fun x => base ≤ x ∧ x < w.heap.size ∧ (Value.slice a n c).ownBlock ≠ some x) w d y p
section
variable {base b : Nat} {w w' : World} {a : Option Addr} {n c d : Nat} {ys : List Nd} {ps : List Rx.Pt}
theorem Kidz.keep (h : Kidz base w a n c d ys ps) (hs : w.heap.size ≤ w'.heap.size) (hw : ∀ x, base ≤ x → x < w.heap.size → w'.heap[x]? = w.heap[x]?) : Kidz base w' a n c d ys ps :=
 ⟨h.hn, ownsRow_same h.own (fun g q => hw g (h.own.lt g q).1 (h.own.lt g q).2), h.len, h.few, fun j y p hy hp => (h.kid j y p hy hp).keep (fun g hg => ⟨hg.1, Nat.lt_of_lt_of_le hg.2.1 hs, hg.2.2⟩) (fun g hg => hw g hg.1 hg.2.1)⟩
theorem Kidz.below (h : Kidz base w a n c d ys ps) (hb : Below w.heap.size w w') : Kidz base w' a n c d ys ps := h.keep hb.size (fun x _ h2 => hb.block x h2)
theorem Kidz.kq (h : Kidz base w a n c d ys ps) (k : Kq b w w') (hb : b < base) : Kidz base w' a n c d ys ps := h.keep k.size (fun x h1 h2 => k.block x h2 (by omega))
theorem Kidz.alloc (h : Kidz base w a n c d ys ps) (o : Obj) : Kidz base (w.alloc o) a n c d ys ps := h.below ((Below.refl _ _).alloc (Nat.le_refl _) o)
theorem Kidz.drewN (h : Kidz base w a n c d ys ps) (q : Nat) : Kidz base (w.drewN q) a n c d ys ps := h.below (rxbelow_dN (Below.refl _ _) q)
theorem Kidz.setCell (h : Kidz base w a n c d ys ps) {p : Addr} (hp : p.block < base) (u : Value) : Kidz base (w.setCell p u) a n c d ys ps := h.keep (by simp) (fun x h1 _ => Below.heap_setCell _ _ _ _ (by omega))
theorem Kidz.nil (w : World) (base : Nat) : Kidz base w none 0 0 0 [] [] := ⟨rfl, World.ownsRow_nil _ _ _ _, rfl, by simp, fun j y p hy => by cases hy⟩
theorem Kidz.lt (h : Kidz base w a n c d ys ps) : ∀ g, (Value.slice a n c).ownBlock = some g → base ≤ g ∧ g < w.heap.size := h.own.lt
theorem Kidz.snoc (h : Kidz base w a n c d ys ps) {a' : Option Addr} {c' : Nat} {y : Nd} {p : Rx.Pt} {d2 : Nat} {w1 : World}
  (hown : w1.ownsRow base 55 4 (.slice a' (n + 1) c') (n + 1) (ndL ys ++ ndC y))
  (hg : w.grownBy w1 (Value.slice a n c).ownBlock) (hor : (Value.slice a' (n + 1) c').ownBlock = (Value.slice a n c).ownBlock ∨ ∃ g, (Value.slice a' (n + 1) c').ownBlock = some g ∧ w.heap.size ≤ g)
  (hy : NodeIs (fun x => base ≤ x ∧ x < w.heap.size ∧ (Value.slice a n c).ownBlock ≠ some x) w d2 y p) (hf : n < 70) : Kidz base w1 a' (n + 1) c' (max d d2) (ys ++ [y]) (ps ++ [p]) := by
 have hS : ∀ g, (base ≤ g ∧ g < w.heap.size ∧ (Value.slice a n c).ownBlock ≠ some g) → (base ≤ g ∧ g < w1.heap.size ∧ (Value.slice a' (n + 1) c').ownBlock ≠ some g) := by
  rintro g ⟨h1, h2, h3⟩;refine ⟨h1, Nat.lt_of_lt_of_le h2 hg.size, ?_⟩;rcases hor with e | ⟨g', e, hl⟩
  ·
   rw [e]; exact h3
  ·
   rw [e]; intro q; have := Option.some.inj q; omega
 have hw : ∀ g, (base ≤ g ∧ g < w.heap.size ∧ (Value.slice a n c).ownBlock ≠ some g) → w1.heap[g]? = w.heap[g]? := fun g ⟨_, h2, h3⟩ => hg.block g h2 (fun e => h3 e.symm)
 have hyn := h.hn;have hpn := h.len;refine ⟨by rw [List.length_append, ← h.hn]; rfl, ?_, by rw [List.length_append, ← h.len]; rfl, by omega, fun j z q hz hq => ?_⟩
 ·
  rw [ndL_append];show w1.ownsRow _ _ _ _ _ (ndL ys ++ (ndC y ++ ndL []));rw [show ndL [] = [] from rfl, List.append_nil];exact hown
 ·
  rcases Nat.lt_or_ge j ys.length with hj | hj
  ·
   rw [List.getElem?_append_left hj] at hz;rw [List.getElem?_append_left (by omega)] at hq;exact ((h.kid j z q hz hq).keep hS hw).le (Nat.le_max_left _ _)
  ·
   have hj2 : j = ys.length := by
    have := (List.getElem?_eq_some_iff.1 hz).1;rw [List.length_append] at this; simp at this; omega
   have hj3 : j = ps.length := by omega
   rw [hj2, List.getElem?_append_right (Nat.le_refl _)] at hz;rw [hj3, List.getElem?_append_right (Nat.le_refl _)] at hq;simp at hz hq;subst hz hq;exact (hy.keep hS hw).le (Nat.le_max_right _ _)
theorem Kidz.cells (h : Kidz base w a n c d ys ps) (hn : 0 < n) : ∃ g, a = some ⟨g, 0, none⟩ ∧ base ≤ g ∧ g < w.heap.size ∧
  ∀ (j : Nat) (q : Rx.Pt), ps[j]? = some q → ∃ y, NodeIs (fun x => base ≤ x ∧ x < w.heap.size) w d y q ∧ ∀ i v, (ndC y)[i]? = some v → w.cell? ⟨g, j * 4 + i, none⟩ = some v := by
 obtain ⟨g, cap, e, h1, h2⟩ := h.own.form hn;injection e with e1 e2 e3
 subst e1 e3;refine ⟨g, rfl, h1, h2, fun j q hq => ?_⟩;have hyn := h.hn;have hpn := h.len;have hj : j < ys.length := by have := (List.getElem?_eq_some_iff.1 hq).1; omega
 refine ⟨ys[j], (h.kid j _ q (List.getElem?_eq_getElem hj) hq).keep (fun g hg => ⟨hg.1, hg.2.1⟩) (fun _ _ => rfl), fun i v hv => ?_⟩;have hi : i < 4 := (List.getElem?_eq_some_iff.1 hv).1;exact (h.own.cellAt' (by omega)).trans (ndL_get ys j i _ v (List.getElem?_eq_getElem hj) hv)
end
theorem Kidz.drew {base : Nat} {w : World} {a : Option Addr} {n c d : Nat} {ys : List Nd} {ps : List Rx.Pt} (h : Kidz base w a n c d ys ps) : Kidz base w.drew a n c d ys ps := h.below (Below.refl _ _).drew
theorem Kx.drew {lo hi : Nat} {u w : World} (h : Kx lo hi u w) : Kx lo hi u w.drew := h.below (Below.refl _ _).drew
theorem Kidz.node {base : Nat} {w : World} {a : Option Addr} {n c d : Nat} {ys : List Nd} {ps : List Rx.Pt} (h : Kidz base w a n c d ys ps) (hn : 0 < n) (h64 : n ≤ 64) {S : Nat → Prop} (hS : ∀ x, base ≤ x ∧ x < w.heap.size → S x) {o : Int} {p : Rx.Pt}
  (hop : o = 124 ∧ p = ps.foldl .alt .nil ∨ o = 38 ∧ p = ps.foldl .seq .eps) : NodeIs S w (d + 1) ⟨o, false, none, 0, 0, a, n, c⟩ p := by
 obtain ⟨g, rfl, h1, h2, h3⟩ := h.cells hn;refine Or.inr (Or.inr (Or.inl ⟨ps, g, hop, rfl, h.len, by rw [← h.len]; exact hn, by rw [← h.len]; exact h64, hS g ⟨h1, h2⟩, fun j q hq => ?_⟩));obtain ⟨y, hy, hc⟩ := h3 j q hq;exact ⟨y, hy.keep hS (fun _ _ => rfl), hc⟩
theorem Pa.grown {b : Nat} {s : ByteArray} {l : List UInt8} {z dz bad pos : Int} {k dp : Nat} {w w' : World} {row : Option Nat} (h : Pa b s l z dz bad pos k dp w) (hg : w.grownBy w' row) (hr : row ≠ some b) : Pa b s l z dz bad pos k dp w' :=
 ⟨h.txt, h.ll, h.kl, h.hk, h.hd, h.dl, grown_at hg h.cells hr⟩
def NP (b : Nat) (w : World) (s : ByteArray) (l : List UInt8) (dp : Nat) (r : Rx.Res Rx.Pt) (e : Ending) (w' : World) : Prop :=
 ∃ (x : Nd) (z dz bad pos : Int) (k : Nat), e = .returned (ndV x) ∧ Pa b s l z dz bad pos k dp w' ∧ Kq b w w' ∧ match r with
  | .ok p j => k = j ∧ bad = 0 ∧ pos = 0 ∧ ∃ d, NodeIs (Rng w w') w' d x p
  | .bad er j => bad = (er : Int) ∧ pos = (j : Int) ∧ er ≠ 0
def cellI (w : World) (b j : Nat) : Int := match w.cell? ⟨b, j, none⟩ with
 | some v => RowKit.intOf v
 | none => 0
def paM (l : List UInt8) (b : Nat) (w : World) : Nat := if cellI w b 3 = 0 then l.length - (cellI w b 1).toNat + 1 else 0
theorem paM_at {b : Nat} {s : ByteArray} {l : List UInt8} {z dz bad pos : Int} {k dp : Nat} {w : World} (R : Pa b s l z dz bad pos k dp w) : paM l b w = if bad = 0 then l.length - k + 1 else 0 := by
 have h1 : cellI w b 1 = z := by unfold cellI; rw [R.cells.cell 1 _ rfl]; rfl
 have h3 : cellI w b 3 = bad := by unfold cellI; rw [R.cells.cell 3 _ rfl]; rfl
 unfold paM;rw [h1, h3, R.hk]; simp
theorem Bts.sets4 {base : Nat} {w : World} {q : Option Addr} {n c : Nat} {rs : List (Nat × Nat)} (h : Bts base w q n c rs) (a : Nat) (hp : a < base) (v0 v1 v2 v3 : Value) : Bts base ((((w.setCell ⟨a, 0, none⟩ v0).setCell ⟨a, 1, none⟩ v1).setCell ⟨a, 2, none⟩ v2).setCell ⟨a, 3, none⟩ v3) q n c rs := ((((h.setCell (p := ⟨a, 0, none⟩) hp v0).setCell (p := ⟨a, 1, none⟩) hp v1).setCell (p := ⟨a, 2, none⟩) hp v2).setCell (p := ⟨a, 3, none⟩) hp v3)
theorem Kidz.sets4 {base : Nat} {w : World} {q : Option Addr} {n c d : Nat} {ys : List Nd} {ps : List Rx.Pt} (h : Kidz base w q n c d ys ps) (a : Nat) (hp : a < base) (v0 v1 v2 v3 : Value) : Kidz base ((((w.setCell ⟨a, 0, none⟩ v0).setCell ⟨a, 1, none⟩ v1).setCell ⟨a, 2, none⟩ v2).setCell ⟨a, 3, none⟩ v3) q n c d ys ps := ((((h.setCell (p := ⟨a, 0, none⟩) hp v0).setCell (p := ⟨a, 1, none⟩) hp v1).setCell (p := ⟨a, 2, none⟩) hp v2).setCell (p := ⟨a, 3, none⟩) hp v3)
theorem Bts.sets9 {base : Nat} {w : World} {q : Option Addr} {n c : Nat} {rs : List (Nat × Nat)} (h : Bts base w q n c rs) (a : Nat) (hp : a < base) (v0 v1 v2 v3 v4 v5 v6 v7 v8 : Value) : Bts base (((((((((w.setCell ⟨a, 0, none⟩ v0).setCell ⟨a, 1, none⟩ v1).setCell ⟨a, 2, none⟩ v2).setCell ⟨a, 3, none⟩ v3).setCell ⟨a, 4, none⟩ v4).setCell ⟨a, 5, none⟩ v5).setCell ⟨a, 6, none⟩ v6).setCell ⟨a, 7, none⟩ v7).setCell ⟨a, 8, none⟩ v8) q n c rs := (((((((((h.setCell (p := ⟨a, 0, none⟩) hp v0).setCell (p := ⟨a, 1, none⟩) hp v1).setCell (p := ⟨a, 2, none⟩) hp v2).setCell (p := ⟨a, 3, none⟩) hp v3).setCell (p := ⟨a, 4, none⟩) hp v4).setCell (p := ⟨a, 5, none⟩) hp v5).setCell (p := ⟨a, 6, none⟩) hp v6).setCell (p := ⟨a, 7, none⟩) hp v7).setCell (p := ⟨a, 8, none⟩) hp v8)
theorem Kidz.sets9 {base : Nat} {w : World} {q : Option Addr} {n c d : Nat} {ys : List Nd} {ps : List Rx.Pt} (h : Kidz base w q n c d ys ps) (a : Nat) (hp : a < base) (v0 v1 v2 v3 v4 v5 v6 v7 v8 : Value) : Kidz base (((((((((w.setCell ⟨a, 0, none⟩ v0).setCell ⟨a, 1, none⟩ v1).setCell ⟨a, 2, none⟩ v2).setCell ⟨a, 3, none⟩ v3).setCell ⟨a, 4, none⟩ v4).setCell ⟨a, 5, none⟩ v5).setCell ⟨a, 6, none⟩ v6).setCell ⟨a, 7, none⟩ v7).setCell ⟨a, 8, none⟩ v8) q n c d ys ps := (((((((((h.setCell (p := ⟨a, 0, none⟩) hp v0).setCell (p := ⟨a, 1, none⟩) hp v1).setCell (p := ⟨a, 2, none⟩) hp v2).setCell (p := ⟨a, 3, none⟩) hp v3).setCell (p := ⟨a, 4, none⟩) hp v4).setCell (p := ⟨a, 5, none⟩) hp v5).setCell (p := ⟨a, 6, none⟩) hp v6).setCell (p := ⟨a, 7, none⟩) hp v7).setCell (p := ⟨a, 8, none⟩) hp v8)
end Go.Proofs.YthdoniefjmphaaaGreatDoor
