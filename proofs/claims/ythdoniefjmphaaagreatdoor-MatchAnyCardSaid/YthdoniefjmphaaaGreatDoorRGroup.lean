/- The reference: group, the choice in it by its contract. -/
import Derived.Test.YthdoniefjmphaaaGreatDoorRAtom
namespace Go.Proofs.YthdoniefjmphaaaGreatDoor
open Go Go.Proofs Go.RowKit Go.Shelf
set_option maxRecDepth 100000
attribute [local go_sem] cell_set ndV
set_option maxHeartbeats 2000000 in
theorem group_deep (b : Nat) (s : ByteArray) (l : List UInt8) (dp k : Nat) (w : World) (R : Pa b s l (k : Int) (dp : Int) 0 0 k dp w) (hd : 8 < dp) :
  Calls Tryz.prog 82 #[.pointer (some ⟨b, 0, none⟩)] w (NP b w s l dp (.bad 4 k)) := by
 have hl := R.ll;have P := Kq.refl b w;have d1 : decide ((8 : Int) < (dp : Int)) = true := decide_eq_true (by omega);have d2 : decide (8 < dp) = true := decide_eq_true hd;have fR := R.f;go_enter Tryz.func82, Tryz.ntmps82
 go_wp2_with fail
 clear fR;have uR0 := R.cells.lt;have Dr := At.nwn _ (w) 0 false none 0 0 none 0 0 rfl;obtain ⟨R, P⟩ := (fun o => And.intro (R.alloc o) (P.alloc o)) (nC 0 false none 0 0 none 0 0);generalize (w).alloc (nC 0 false none 0 0 none 0 0) = v0 at *;have fr := Dr.f4;have fR := R.f;clear fr fR;have ltr := Dr.lt;have ltR := R.cells.lt;refine (pfail_any b s l _ _ _ _ _ _ _ _ R).mono ?_;rintro e w1 ⟨rfl, R2, P2⟩;have Dr := Dr.kq P2 (by omega);have P := P.trans P2;have P3 := P2;have R := R2;clear R2 P2;clear ltR ltr;have fr := Dr.f4;have fR := R.f;go_wp2
 clear fr fR;obtain ⟨Dr, R, P⟩ := (fun o0 o1 o2 o3 => And.intro (Dr.puts4 o0 o1 o2 o3) (And.intro (R.fars4 (w.heap.size) (by omega) o0 o1 o2 o3) (P.sets4 (w.heap.size) (by omega) o0 o1 o2 o3))) (.int .u8 0) (.bool false) (.slice none 0 0) (.slice none 0 0);generalize ((((w1).setCell ⟨w.heap.size, 0, none⟩ (.int .u8 0)).setCell ⟨w.heap.size, 1, none⟩ (.bool false)).setCell ⟨w.heap.size, 2, none⟩ (.slice none 0 0)).setCell ⟨w.heap.size, 3, none⟩ (.slice none 0 0) = v9 at *;have fr := Dr.f4;have fR := R.f;refine bodyPost_ret (v := ndV nd0) (by simp [results, Tryz.results82, go_sem, fr, nd0]; try rfl) rfl ?_;exact NP.nil R P (er := 4) (j := k) rfl rfl (by decide)
set_option maxHeartbeats 4000000 in
theorem group_b (b : Nat) (s : ByteArray) (l : List UInt8) (dp k : Nat) (w : World) (R : Pa b s l (k : Int) (dp : Int) 0 0 k dp w) (hk : k < l.length) (hd : dp ≤ 8) (er j : Nat)
  (HC : ∀ (z dz : Int) (W : World), Pa b s l z dz 0 0 (k + 1) (dp + 1) W → Calls Tryz.prog 37 #[.pointer (some ⟨b, 0, none⟩)] W (NP b W s l (dp + 1) (.bad er j))) :
  Calls Tryz.prog 82 #[.pointer (some ⟨b, 0, none⟩)] w (NP b w s l dp (.bad er j)) := by
 have hl := R.ll;have hsz : s.size = l.length := by rw [Lib.size_eq, R.txt]
 have P := Kq.refl b w;have HC := Lib.hid HC;have d1 : decide ((8 : Int) < (dp : Int)) = false := decide_eq_false (by omega);have d2 : decide (8 < dp) = false := decide_eq_false (by omega);have fR := R.f;go_enter Tryz.func82, Tryz.ntmps82
 go_upto_region 4 with (fail)
 clear fR;have uR0 := R.cells.lt;have Dr := At.nwn _ (w) 0 false none 0 0 none 0 0 rfl;obtain ⟨R, P⟩ := (fun o => And.intro (R.alloc o) (P.alloc o)) (nC 0 false none 0 0 none 0 0);generalize (w).alloc (nC 0 false none 0 0 none 0 0) = v0 at *;have fr := Dr.f4;have fR := R.f;go_wp2_with fail
 clear fr fR;have Dr := ((Dr.far (b' := b) (j := 1) (by omega) (.int .i64 ((k : Int) + 1))).far (b' := b) (j := 2) (by omega) (.int .i64 ((dp : Int) + 1)));have R := ((R.move (z' := (k : Int) + 1) (k' := k + 1) (by omega) (by omega)).deep (d' := (dp : Int) + 1) (dp' := dp + 1) (by omega) (by omega));have P := ((P.setCell (p := ⟨b, 1, none⟩) (.inr rfl) (.int .i64 ((k : Int) + 1))).setCell (p := ⟨b, 2, none⟩) (.inr rfl) (.int .i64 ((dp : Int) + 1)));generalize ((v0).setCell ⟨b, 1, none⟩ (.int .i64 ((k : Int) + 1))).setCell ⟨b, 2, none⟩ (.int .i64 ((dp : Int) + 1)) = v1 at *;have fr := Dr.f4;have fR := R.f;clear fr fR;have ltr := Dr.lt;have ltR := R.cells.lt;refine (HC.out _ _ _ R).mono ?_;rintro e w1 ⟨xn, z1, dz1, bad, pos, k1, rfl, R2, P2, hst⟩;have Dr := Dr.kq P2 (by omega);have P := P.trans P2;have P3 := P2;have R := R2;clear R2 P2;have ltRX1 := ltR;clear ltR;have ltrX1 := ltr;clear ltr;have X1 := Kx.refl (v1.heap.size) w1;have fr := Dr.f4;have fR := R.f;obtain ⟨xo, xb, sa, sl, sc, ka, kl, kc⟩ := xn;have hd3 : dz1 = (dp : Int) + 1 := by rw [R.hd]; simp
 subst hd3;go_upto_region 7 with (fail)
 clear fr fR;have ur1 := Dr.lt;have uR1 := R.cells.lt;have Dn := At.nwn _ (w1) xo xb sa sl sc ka kl kc rfl;obtain ⟨Dr, R, P⟩ := (fun o => And.intro (Dr.alloc o) (And.intro (R.alloc o) (P.alloc o))) (nC xo xb sa sl sc ka kl kc);have X1le := X1.le;have X1 := (X1.alloc (nC xo xb sa sl sc ka kl kc));generalize (w1).alloc (nC xo xb sa sl sc ka kl kc) = v2 at *;have fr := Dr.f4;have fn := Dn.f4;have fR := R.f;obtain ⟨rfl, rfl, hne⟩ := hst;have hne2 : ((er : Int) != 0) = true := by rw [bne_iff_ne]; omega
 go_upto_region 9 with (fail)
 clear fr fn fR;have Dr := (Dr.far (b' := b) (j := 2) (by omega) (.int .i64 ((dp : Int))));have Dn := (Dn.far (b' := b) (j := 2) (by omega) (.int .i64 ((dp : Int))));have R := (R.deep (d' := (dp : Int)) (dp' := dp) (by omega) (by omega));have P := (P.setCell (p := ⟨b, 2, none⟩) (.inr rfl) (.int .i64 ((dp : Int))));have X1 := (X1.setCell (p := ⟨b, 2, none⟩) (by dsimp only; omega) (.int .i64 ((dp : Int))));generalize (v2).setCell ⟨b, 2, none⟩ (.int .i64 ((dp : Int))) = v3 at *;have fr := Dr.f4;have fn := Dn.f4;have fR := R.f;go_wp2
 clear fr fn fR;obtain ⟨Dr, Dn, R, P, X1⟩ := (fun o0 o1 o2 o3 => And.intro (Dr.puts4 o0 o1 o2 o3) (And.intro (Dn.fars4 (w.heap.size) (by omega) o0 o1 o2 o3) (And.intro (R.fars4 (w.heap.size) (by omega) o0 o1 o2 o3) (And.intro (P.sets4 (w.heap.size) (by omega) o0 o1 o2 o3) (X1.sets4 (w.heap.size) (by omega) o0 o1 o2 o3))))) (.int .u8 0) (.bool false) (.slice none 0 0) (.slice none 0 0);generalize ((((v3).setCell ⟨w.heap.size, 0, none⟩ (.int .u8 0)).setCell ⟨w.heap.size, 1, none⟩ (.bool false)).setCell ⟨w.heap.size, 2, none⟩ (.slice none 0 0)).setCell ⟨w.heap.size, 3, none⟩ (.slice none 0 0) = v9 at *;have fr := Dr.f4;have fn := Dn.f4;have fR := R.f;refine bodyPost_ret (v := ndV nd0) (by simp [results, Tryz.results82, go_sem, fr, nd0]; try rfl) rfl ?_;exact NP.nil R P rfl rfl hne
set_option maxHeartbeats 4000000 in
theorem group_e (b : Nat) (s : ByteArray) (l : List UInt8) (dp k : Nat) (w : World) (R : Pa b s l (k : Int) (dp : Int) 0 0 k dp w) (hk : k < l.length) (hd : dp ≤ 8) (p : Rx.Pt) (j : Nat) (hj : l.length ≤ j)
  (HC : ∀ (z dz : Int) (W : World), Pa b s l z dz 0 0 (k + 1) (dp + 1) W → Calls Tryz.prog 37 #[.pointer (some ⟨b, 0, none⟩)] W (NP b W s l (dp + 1) (.ok p j))) :
  Calls Tryz.prog 82 #[.pointer (some ⟨b, 0, none⟩)] w (NP b w s l dp (.bad 2 j)) := by
 have hl := R.ll;have hsz : s.size = l.length := by rw [Lib.size_eq, R.txt]
 have P := Kq.refl b w;have HC := Lib.hid HC;have d1 : decide ((8 : Int) < (dp : Int)) = false := decide_eq_false (by omega);have d2 : decide (8 < dp) = false := decide_eq_false (by omega);have fR := R.f;go_enter Tryz.func82, Tryz.ntmps82
 go_upto_region 4 with (fail)
 clear fR;have uR0 := R.cells.lt;have Dr := At.nwn _ (w) 0 false none 0 0 none 0 0 rfl;obtain ⟨R, P⟩ := (fun o => And.intro (R.alloc o) (P.alloc o)) (nC 0 false none 0 0 none 0 0);generalize (w).alloc (nC 0 false none 0 0 none 0 0) = v0 at *;have fr := Dr.f4;have fR := R.f;go_wp2_with fail
 clear fr fR;have Dr := ((Dr.far (b' := b) (j := 1) (by omega) (.int .i64 ((k : Int) + 1))).far (b' := b) (j := 2) (by omega) (.int .i64 ((dp : Int) + 1)));have R := ((R.move (z' := (k : Int) + 1) (k' := k + 1) (by omega) (by omega)).deep (d' := (dp : Int) + 1) (dp' := dp + 1) (by omega) (by omega));have P := ((P.setCell (p := ⟨b, 1, none⟩) (.inr rfl) (.int .i64 ((k : Int) + 1))).setCell (p := ⟨b, 2, none⟩) (.inr rfl) (.int .i64 ((dp : Int) + 1)));generalize ((v0).setCell ⟨b, 1, none⟩ (.int .i64 ((k : Int) + 1))).setCell ⟨b, 2, none⟩ (.int .i64 ((dp : Int) + 1)) = v1 at *;have fr := Dr.f4;have fR := R.f;clear fr fR;have ltr := Dr.lt;have ltR := R.cells.lt;refine (HC.out _ _ _ R).mono ?_;rintro e w1 ⟨xn, z1, dz1, bad, pos, k1, rfl, R2, P2, hst⟩;have Dr := Dr.kq P2 (by omega);have P := P.trans P2;have P3 := P2;have R := R2;clear R2 P2;have ltRX1 := ltR;clear ltR;have ltrX1 := ltr;clear ltr;have X1 := Kx.refl (v1.heap.size) w1;have fr := Dr.f4;have fR := R.f;obtain ⟨xo, xb, sa, sl, sc, ka, kl, kc⟩ := xn;have hd3 : dz1 = (dp : Int) + 1 := by rw [R.hd]; simp
 subst hd3;go_upto_region 7 with (fail)
 clear fr fR;have ur1 := Dr.lt;have uR1 := R.cells.lt;have Dn := At.nwn _ (w1) xo xb sa sl sc ka kl kc rfl;obtain ⟨Dr, R, P⟩ := (fun o => And.intro (Dr.alloc o) (And.intro (R.alloc o) (P.alloc o))) (nC xo xb sa sl sc ka kl kc);have X1le := X1.le;have X1 := (X1.alloc (nC xo xb sa sl sc ka kl kc));generalize (w1).alloc (nC xo xb sa sl sc ka kl kc) = v2 at *;have fr := Dr.f4;have fn := Dn.f4;have fR := R.f;obtain ⟨rfl, rfl, rfl, -⟩ := hst;obtain rfl := R.hk;have hkl := R.kl;have dq : decide ((s.size : Int) ≤ (k1 : Int)) = true := decide_eq_true (by omega);have hq : (s.size : Int) ≤ (k1 : Int) := by omega
 go_wp2_with fail
 clear fr fn fR;have Dr := (Dr.far (b' := b) (j := 2) (by omega) (.int .i64 ((dp : Int))));have Dn := (Dn.far (b' := b) (j := 2) (by omega) (.int .i64 ((dp : Int))));have R := (R.deep (d' := (dp : Int)) (dp' := dp) (by omega) (by omega));have P := (P.setCell (p := ⟨b, 2, none⟩) (.inr rfl) (.int .i64 ((dp : Int))));have X1 := (X1.setCell (p := ⟨b, 2, none⟩) (by dsimp only; omega) (.int .i64 ((dp : Int))));generalize (v2).setCell ⟨b, 2, none⟩ (.int .i64 ((dp : Int))) = v3 at *;have fr := Dr.f4;have fn := Dn.f4;have fR := R.f;go_quiet (fail)
 clear fr fn fR;have Dr := (Dr.drewN nq);have Dn := (Dn.drewN nq);have R := (R.drewN nq);have P := (P.drewN nq);have X1 := (X1.drewN nq);generalize (v3).drewN nq = v4 at *;have fr := Dr.f4;have fn := Dn.f4;have fR := R.f;go_wp2_with fail
 clear fr fn fR;have ltr := Dr.lt;have ltn := Dn.lt;have ltR := R.cells.lt;refine (pfail_any b s l _ _ _ _ _ _ _ _ R).mono ?_;rintro e w2 ⟨rfl, R2, P2⟩;have Dr := Dr.kq P2 (by omega);have Dn := Dn.kq P2 (by omega);have X1 := X1.kq P2 (by omega);have P := P.trans P2;have P3 := P2;have R := R2;clear R2 P2;clear ltR ltr ltn;have fr := Dr.f4;have fn := Dn.f4;have fR := R.f;go_wp2
 clear fr fn fR;obtain ⟨Dr, Dn, R, P, X1⟩ := (fun o0 o1 o2 o3 => And.intro (Dr.puts4 o0 o1 o2 o3) (And.intro (Dn.fars4 (w.heap.size) (by omega) o0 o1 o2 o3) (And.intro (R.fars4 (w.heap.size) (by omega) o0 o1 o2 o3) (And.intro (P.sets4 (w.heap.size) (by omega) o0 o1 o2 o3) (X1.sets4 (w.heap.size) (by omega) o0 o1 o2 o3))))) (.int .u8 0) (.bool false) (.slice none 0 0) (.slice none 0 0);generalize ((((w2).setCell ⟨w.heap.size, 0, none⟩ (.int .u8 0)).setCell ⟨w.heap.size, 1, none⟩ (.bool false)).setCell ⟨w.heap.size, 2, none⟩ (.slice none 0 0)).setCell ⟨w.heap.size, 3, none⟩ (.slice none 0 0) = v9 at *;have fr := Dr.f4;have fn := Dn.f4;have fR := R.f;refine bodyPost_ret (v := ndV nd0) (by simp [results, Tryz.results82, go_sem, fr, nd0]; try rfl) rfl ?_;exact NP.nil R P (er := 2) (j := k1) rfl (by omega) (by decide)
set_option maxHeartbeats 4000000 in
theorem group_g (b : Nat) (s : ByteArray) (l : List UInt8) (dp k : Nat) (w : World) (R : Pa b s l (k : Int) (dp : Int) 0 0 k dp w) (hk : k < l.length) (hd : dp ≤ 8) (p : Rx.Pt) (j : Nat) (hj : j < l.length)
  (HC : ∀ (z dz : Int) (W : World), Pa b s l z dz 0 0 (k + 1) (dp + 1) W → Calls Tryz.prog 37 #[.pointer (some ⟨b, 0, none⟩)] W (NP b W s l (dp + 1) (.ok p j))) :
  Calls Tryz.prog 82 #[.pointer (some ⟨b, 0, none⟩)] w (NP b w s l dp (.ok p (j + 1))) := by
 have hl := R.ll;have hsz : s.size = l.length := by rw [Lib.size_eq, R.txt]
 have P := Kq.refl b w;have HC := Lib.hid HC;have d1 : decide ((8 : Int) < (dp : Int)) = false := decide_eq_false (by omega);have d2 : decide (8 < dp) = false := decide_eq_false (by omega);have fR := R.f;go_enter Tryz.func82, Tryz.ntmps82
 go_upto_region 4 with (fail)
 clear fR;have uR0 := R.cells.lt;have Dr := At.nwn _ (w) 0 false none 0 0 none 0 0 rfl;obtain ⟨R, P⟩ := (fun o => And.intro (R.alloc o) (P.alloc o)) (nC 0 false none 0 0 none 0 0);generalize (w).alloc (nC 0 false none 0 0 none 0 0) = v0 at *;have fr := Dr.f4;have fR := R.f;go_wp2_with fail
 clear fr fR;have Dr := ((Dr.far (b' := b) (j := 1) (by omega) (.int .i64 ((k : Int) + 1))).far (b' := b) (j := 2) (by omega) (.int .i64 ((dp : Int) + 1)));have R := ((R.move (z' := (k : Int) + 1) (k' := k + 1) (by omega) (by omega)).deep (d' := (dp : Int) + 1) (dp' := dp + 1) (by omega) (by omega));have P := ((P.setCell (p := ⟨b, 1, none⟩) (.inr rfl) (.int .i64 ((k : Int) + 1))).setCell (p := ⟨b, 2, none⟩) (.inr rfl) (.int .i64 ((dp : Int) + 1)));generalize ((v0).setCell ⟨b, 1, none⟩ (.int .i64 ((k : Int) + 1))).setCell ⟨b, 2, none⟩ (.int .i64 ((dp : Int) + 1)) = v1 at *;have fr := Dr.f4;have fR := R.f;clear fr fR;have ltr := Dr.lt;have ltR := R.cells.lt;refine (HC.out _ _ _ R).mono ?_;rintro e w1 ⟨xn, z1, dz1, bad, pos, k1, rfl, R2, P2, hst⟩;have Dr := Dr.kq P2 (by omega);have P := P.trans P2;have P3 := P2;have R := R2;clear R2 P2;have ltRX1 := ltR;clear ltR;have ltrX1 := ltr;clear ltr;have X1 := Kx.refl (v1.heap.size) w1;have fr := Dr.f4;have fR := R.f;obtain ⟨xo, xb, sa, sl, sc, ka, kl, kc⟩ := xn;have hd3 : dz1 = (dp : Int) + 1 := by rw [R.hd]; simp
 subst hd3;go_upto_region 7 with (fail)
 clear fr fR;have ur1 := Dr.lt;have uR1 := R.cells.lt;have Dn := At.nwn _ (w1) xo xb sa sl sc ka kl kc rfl;obtain ⟨Dr, R, P⟩ := (fun o => And.intro (Dr.alloc o) (And.intro (R.alloc o) (P.alloc o))) (nC xo xb sa sl sc ka kl kc);have X1le := X1.le;have X1 := (X1.alloc (nC xo xb sa sl sc ka kl kc));generalize (w1).alloc (nC xo xb sa sl sc ka kl kc) = v2 at *;have fr := Dr.f4;have fn := Dn.f4;have fR := R.f;obtain ⟨rfl, rfl, rfl, d, hnd⟩ := hst;obtain rfl := R.hk;have HN := Lib.hid hnd;clear hnd;have dq : decide ((s.size : Int) ≤ (k1 : Int)) = false := decide_eq_false (by omega);have hq : ¬ (s.size : Int) ≤ (k1 : Int) := by omega
 go_wp2_with fail
 clear fr fn fR;have Dr := (Dr.far (b' := b) (j := 2) (by omega) (.int .i64 ((dp : Int))));have Dn := (Dn.far (b' := b) (j := 2) (by omega) (.int .i64 ((dp : Int))));have R := (R.deep (d' := (dp : Int)) (dp' := dp) (by omega) (by omega));have P := (P.setCell (p := ⟨b, 2, none⟩) (.inr rfl) (.int .i64 ((dp : Int))));have X1 := (X1.setCell (p := ⟨b, 2, none⟩) (by dsimp only; omega) (.int .i64 ((dp : Int))));generalize (v2).setCell ⟨b, 2, none⟩ (.int .i64 ((dp : Int))) = v3 at *;have fr := Dr.f4;have fn := Dn.f4;have fR := R.f;go_quiet (fail)
 clear fr fn fR;have Dr := (Dr.drewN nq);have Dn := (Dn.drewN nq);have R := (R.drewN nq);have P := (P.drewN nq);have X1 := (X1.drewN nq);generalize (v3).drewN nq = v4 at *;have fr := Dr.f4;have fn := Dn.f4;have fR := R.f;go_upto_region 14 with (fail)
 clear fr fn fR;have Dr := (Dr.far (b' := b) (j := 1) (by omega) (.int .i64 ((k1 : Int) + 1)));have Dn := (Dn.far (b' := b) (j := 1) (by omega) (.int .i64 ((k1 : Int) + 1)));have R := (R.move (z' := (k1 : Int) + 1) (k' := k1 + 1) (by omega) (by omega));have P := (P.setCell (p := ⟨b, 1, none⟩) (.inr rfl) (.int .i64 ((k1 : Int) + 1)));have X1 := (X1.setCell (p := ⟨b, 1, none⟩) (by dsimp only; omega) (.int .i64 ((k1 : Int) + 1)));generalize (v4).setCell ⟨b, 1, none⟩ (.int .i64 ((k1 : Int) + 1)) = v5 at *;have fr := Dr.f4;have fn := Dn.f4;have fR := R.f;go_wp2
 clear fr fn fR;obtain ⟨Dr, Dn, R, P, X1⟩ := (fun o0 o1 o2 o3 => And.intro (Dr.puts4 o0 o1 o2 o3) (And.intro (Dn.fars4 (w.heap.size) (by omega) o0 o1 o2 o3) (And.intro (R.fars4 (w.heap.size) (by omega) o0 o1 o2 o3) (And.intro (P.sets4 (w.heap.size) (by omega) o0 o1 o2 o3) (X1.sets4 (w.heap.size) (by omega) o0 o1 o2 o3))))) (.int .u8 xo) (.bool xb) (.slice sa sl sc) (.slice ka kl kc);generalize ((((v5).setCell ⟨w.heap.size, 0, none⟩ (.int .u8 xo)).setCell ⟨w.heap.size, 1, none⟩ (.bool xb)).setCell ⟨w.heap.size, 2, none⟩ (.slice sa sl sc)).setCell ⟨w.heap.size, 3, none⟩ (.slice ka kl kc) = v9 at *;have fr := Dr.f4;have fn := Dn.f4;have fR := R.f;refine bodyPost_ret (v := ndV ⟨xo, xb, sa, sl, sc, ka, kl, kc⟩) (by simp [results, Tryz.results82, go_sem, fr]; try rfl) rfl ?_;have hlo : w.heap.size ≤ v1.heap.size := by have := ltrX1; omega
 exact ⟨⟨xo, xb, sa, sl, sc, ka, kl, kc⟩, _, _, _, _, _, rfl, R, P, rfl, rfl, rfl, d, HN.out.keep (fun g hg => ⟨Nat.le_trans hlo hg.1, Nat.lt_of_lt_of_le hg.2 X1.le⟩) (fun g hg => X1.same g hg.1 hg.2)⟩
theorem rowL_end {inner : Nat → Rx.Res Rx.Pt} {l : List UInt8} : ∀ (f j : Nat) (acc : Rx.Pt) {p : Rx.Pt} {i : Nat}, Rx.rowL inner l f j acc = .ok p i → l.length ≤ i ∨ Rx.pk l i = 124 ∨ Rx.pk l i = 41 := by
 intro f;induction f with
 | zero => intro j acc p i h; cases h
 | succ f ih =>
  intro j acc p i h;unfold Rx.rowL at h;split at h
  ·
   rename_i he
   injection h with h1 h2
   subst h2;unfold Rx.rowEnd at he;simp only [Bool.or_eq_true, decide_eq_true_eq, beq_iff_eq] at he;rcases he with (he | he) | he
   ·
    exact Or.inl he
   ·
    exact Or.inr (Or.inl he)
   ·
    exact Or.inr (Or.inr he)
  ·
   split at h
   ·
    cases h
   ·
    exact ih _ _ h
theorem rowF_end {inner : Nat → Rx.Res Rx.Pt} {l : List UInt8} {k : Nat} {p : Rx.Pt} {i : Nat} (h : Rx.rowF inner l k = .ok p i) : l.length ≤ i ∨ Rx.pk l i = 124 ∨ Rx.pk l i = 41 := by
 unfold Rx.rowF at h;split at h
 ·
  cases h
 ·
  exact rowL_end _ _ _ h
theorem choiceL_end {inner : Nat → Rx.Res Rx.Pt} {l : List UInt8} : ∀ (f j : Nat) (acc : Rx.Pt) {p : Rx.Pt} {i : Nat}, (l.length ≤ j ∨ Rx.pk l j = 124 ∨ Rx.pk l j = 41) → Rx.choiceL inner l f j acc = .ok p i → l.length ≤ i ∨ Rx.pk l i = 41 := by
 intro f;induction f with
 | zero => intro j acc p i _ h; cases h
 | succ f ih =>
  intro j acc p i hj h;unfold Rx.choiceL at h;split at h
  ·
   split at h
   ·
    cases h
   ·
    rename_i q i2 hr
    exact ih _ _ (rowF_end hr) h
  ·
   rename_i h124
   injection h with h1 h2
   subst h2;rcases hj with h | h | h
   ·
    exact Or.inl h
   ·
    exact (h124 h).elim
   ·
    exact Or.inr h
theorem choiceF_end {inner : Nat → Rx.Res Rx.Pt} {l : List UInt8} {k : Nat} {p : Rx.Pt} {i : Nat} (h : Rx.choiceF inner l k = .ok p i) : l.length ≤ i ∨ Rx.pk l i = 41 := by
 unfold Rx.choiceF at h;split at h
 ·
  cases h
 ·
  rename_i q j hr
  exact choiceL_end _ _ _ (rowF_end hr) h
def RChoiceOK (b : Nat) (s : ByteArray) (l : List UInt8) (dp : Nat) (inner : Nat → Rx.Res Rx.Pt) : Prop :=
 ∀ (z dz : Int) (k : Nat) (w : World), Pa b s l z dz 0 0 k dp w → Calls Tryz.prog 37 #[.pointer (some ⟨b, 0, none⟩)] w (NP b w s l dp (Rx.choiceF inner l k))
theorem rgroup_any (b : Nat) (s : ByteArray) (l : List UInt8) (dp d : Nat) (hd : dp + d = 9) (HC : ∀ d', d = d' + 1 → RChoiceOK b s l (dp + 1) (Rx.innerF l d')) : GroupOK b s l dp (Rx.innerF l d) := by
 intro z dz k w R h40;obtain rfl := R.hk;obtain rfl := R.hd;have hk := Rx.pk_lt (l := l) (k := k) (by omega);cases d with
 | zero => exact group_deep b s l dp k w R (by omega)
 | succ d =>
  have HC := HC d rfl;unfold Rx.innerF;have HC2 : ∀ (z dz : Int) (W : World), Pa b s l z dz 0 0 (k + 1) (dp + 1) W → _ := fun z dz W h => HC z dz (k + 1) W h
  cases hr : Rx.choiceF (Rx.innerF l d) l (k + 1) with
  | bad er j => rw [hr] at HC2; exact group_b b s l dp k w R hk (by omega) er j HC2
  | ok p j =>
   rw [hr] at HC2;dsimp only;by_cases hj : Rx.pk l j = 41
   ·
    rw [if_pos hj]; exact group_g b s l dp k w R hk (by omega) p j (Rx.pk_lt (by omega)) HC2
   ·
    rw [if_neg hj];have hle : l.length ≤ j := (choiceF_end hr).resolve_right hj;exact group_e b s l dp k w R hk (by omega) p j hle HC2
end Go.Proofs.YthdoniefjmphaaaGreatDoor
