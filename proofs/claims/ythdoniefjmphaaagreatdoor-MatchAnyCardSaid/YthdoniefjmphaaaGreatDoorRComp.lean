/- The reference's choice, row, atom, group: read as the mathematics says, to any depth. -/
import Derived.Test.YthdoniefjmphaaaGreatDoorRRow
import Derived.Test.YthdoniefjmphaaaGreatDoorRSet
namespace Go.Proofs.YthdoniefjmphaaaGreatDoor
open Go Go.Proofs Go.RowKit Go.Shelf
set_option maxRecDepth 100000
theorem rchoice_deep (b : Nat) (s : ByteArray) (l : List UInt8) : ∀ (d dp : Nat), dp + d = 9 → RChoiceOK b s l dp (Rx.innerF l d) := by
  intro d;induction d with
  | zero =>
    intro dp hd;have hG : GroupOK b s l dp (Rx.innerF l 0) := rgroup_any b s l dp 0 hd (fun d' e => by omega);have hA : RAtomOK b s l dp (Rx.innerF l 0) := fun z dz k w R => ratom_any b s l z dz k dp w R _ hG (fun W h h91 => rset_any b s l _ dz k dp W h h91)
    exact rchoice_any b s l dp _ (Rx.inner_goes 0) (rrow_any b s l dp _ (Rx.inner_goes 0) hA)
  | succ d ih =>
    intro dp hd;have hG : GroupOK b s l dp (Rx.innerF l (d + 1)) := rgroup_any b s l dp (d + 1) hd (fun d' e => by obtain rfl : d = d' := (by omega); exact ih (dp + 1) (by omega));have hA : RAtomOK b s l dp (Rx.innerF l (d + 1)) := fun z dz k w R => ratom_any b s l z dz k dp w R _ hG (fun W h h91 => rset_any b s l _ dz k dp W h h91)
    exact rchoice_any b s l dp _ (Rx.inner_goes (d + 1)) (rrow_any b s l dp _ (Rx.inner_goes (d + 1)) hA)
theorem rchoice_top (b : Nat) (s : ByteArray) (l : List UInt8) : RChoiceOK b s l 0 (Rx.innerF l 9) := rchoice_deep b s l 9 0 rfl
end Go.Proofs.YthdoniefjmphaaaGreatDoor
namespace Go.Proofs.YthdoniefjmphaaaGreatDoor
open Go Go.Proofs Go.RowKit Go.Shelf
set_option maxRecDepth 100000
attribute [local go_sem] cell_set ndV
def RCP (w : World) (r : Rx.Res Rx.Pt) (e : Ending) (w' : World) : Prop :=
 Below w.heap.size w w' ∧ ∃ (x : Nd) (at_ er_ : Int), e = .returned (.tuple #[ndV x, .int .i64 at_, .int .i64 er_]) ∧ match r with
  | .ok p _ => at_ = 0 ∧ er_ = 0 ∧ ∃ d, NodeIs (Rng w w') w' d x p
  | .bad er j => er_ = (er : Int) ∧ at_ = (j : Int) ∧ er ≠ 0
theorem kq_below {b : Nat} {w w' : World} (k : Kq b w w') (hb : w.heap.size ≤ b) : Below w.heap.size w w' := ⟨k.os, k.tape, k.output, k.size, fun i hi => k.block i hi (by omega)⟩
set_option maxHeartbeats 2000000 in
theorem rcompile_l (s : ByteArray) (hl : 64 < s.size) (w : World) : Calls Tryz.prog 24 #[.string s] w (RCP w (.bad 4 0)) := by
 have d1 : decide ((64 : Int) < (s.size : Int)) = true := decide_eq_true (by omega);have d2 : decide (64 < s.size) = true := decide_eq_true hl;go_enter Tryz.func24, Tryz.ntmps24
 go_wp2_with fail
 have B := Below.refl w.heap.size w;have Dr := At.nwn _ (w) 0 false none 0 0 none 0 0 rfl;have B := (below_new B (nC 0 false none 0 0 none 0 0));generalize (w).alloc (nC 0 false none 0 0 none 0 0) = v9 at *;have fr := Dr.f4;refine bodyPost_ret (v := .tuple #[ndV nd0, .int .i64 0, .int .i64 4]) (by simp [results, Tryz.results24, go_sem, fr, nd0]; try rfl) rfl ?_;exact ⟨B, nd0, _, _, rfl, rfl, rfl, by decide⟩
set_option maxHeartbeats 4000000 in
theorem rcompile_b (s : ByteArray) (l : List UInt8) (hud : s.data.toList = l) (hl : l.length ≤ 64) (w : World) (er j : Nat) (hT : Rx.choiceF (Rx.innerF l 9) l 0 = .bad er j) : Calls Tryz.prog 24 #[.string s] w (RCP w (.bad er j)) := by
 have hsz : s.size = l.length := by rw [Lib.size_eq, hud]
 have d1 : decide ((64 : Int) < (s.size : Int)) = false := decide_eq_false (by omega);have d2 : decide (64 < s.size) = false := decide_eq_false (by omega);have d3 : decide ((64 : Int) < (l.length : Int)) = false := decide_eq_false (by omega);have d4 : decide (64 < l.length) = false := decide_eq_false (by omega);have HUD := Lib.hid hud;have HC := fun b W h => rchoice_top b s l (0 : Int) (0 : Int) 0 W h
 rw [hT] at HC;have HC := Lib.hid HC;clear hT hud;go_enter Tryz.func24, Tryz.ntmps24
 go_wp2_with fail
 have B := Below.refl w.heap.size w;have Dr := ((At.nwn (w.heap.size) (w) 0 false none 0 0 none 0 0).alloc (.cells #[.string s, .int .i64 0, .int .i64 0, .int .i64 0, .int .i64 0] 79))
 have Dp := (At.nwb (w.heap.size + 1) ((w).alloc (nC 0 false none 0 0 none 0 0)) [.string s, .int .i64 0, .int .i64 0, .int .i64 0, .int .i64 0] 79)
 have B := (below_new (below_new B (nC 0 false none 0 0 none 0 0)) (.cells #[.string s, .int .i64 0, .int .i64 0, .int .i64 0, .int .i64 0] 79));generalize ((w).alloc (nC 0 false none 0 0 none 0 0)).alloc (.cells #[.string s, .int .i64 0, .int .i64 0, .int .i64 0, .int .i64 0] 79) = v0 at *;obtain ⟨b, hb⟩ : ∃ b, b = w.heap.size + 1 := ⟨_, rfl⟩;rw [← hb] at Dp ⊢;have hrb : w.heap.size < b := by omega
 clear hb;have R : Pa b s l 0 0 0 0 0 0 v0 := ⟨HUD.out, hl, Nat.zero_le _, rfl, rfl, Nat.zero_le _, Dp⟩;have P : Kq b w v0 := ⟨B.os, B.tape, B.output, B.size, fun i hi _ => B.block i hi⟩;have hwv := B.size;have hrv := Dr.lt;clear Dp;have ltr := Dr.lt;have ltR := R.cells.lt;refine (HC.out b _ R).mono ?_;rintro e w1 ⟨xn, z1, dz2, bad, pos, k1, rfl, R2, P2, hst⟩;have Dr := Dr.kq P2 (by omega);have P := P.trans P2;have P3 := P2;have R := R2;clear R2 P2;have ltRX1 := ltR;clear ltR;have ltrX1 := ltr;clear ltr;have X1 := Kx.refl (v0.heap.size) w1;have fr := Dr.f4;have fR := R.f;clear P3;obtain ⟨xo, xb, sa, sl, sc, ka, kl, kc⟩ := xn;obtain ⟨rfl, rfl, hne⟩ := hst;have hne2 : ((er : Int) == 0) = false := by rw [beq_eq_false_iff_ne]; omega
 have hne3 : ((er : Int) != 0) = true := by rw [bne_iff_ne]; omega
 go_upto_region 8 with (fail)
 clear fr fR;have ur1 := Dr.lt;have uR1 := R.cells.lt;have Dn := At.nwn _ (w1) xo xb sa sl sc ka kl kc rfl;obtain ⟨Dr, R, P⟩ := (fun o => And.intro (Dr.alloc o) (And.intro (R.alloc o) (P.alloc o))) (nC xo xb sa sl sc ka kl kc);have X1le := X1.le;have X1 := (X1.alloc (nC xo xb sa sl sc ka kl kc));generalize (w1).alloc (nC xo xb sa sl sc ka kl kc) = v2 at *;have fr := Dr.f4;have fn := Dn.f4;have fR := R.f;clear fr fn fR;have Dr : At ((v2).drew) (w.heap.size) [.int .u8 0, .bool false, .slice none 0 0, .slice none 0 0] := Dr.drew;have Dn : At ((v2).drew) (w1.heap.size) [.int .u8 xo, .bool xb, .slice sa sl sc, .slice ka kl kc] := Dn.drew;have R := R.drew;have P := P.drew;have X1 := X1.drew;refine wp_region_held_drew (S := fun u => At u b [.string s, .int .i64 (z1), .int .i64 (dz2), .int .i64 ((er : Int)), .int .i64 ((j : Int))]) (by kernel_rfl) ?_ (fun hS => ?_)
 ·
  exact R.cells
 generalize (v2).drew = v1 at *;refine tkH 0 hS ?_;refine tkH 1 hS ?_;refine tkH 2 hS ?_;refine tkH 3 hS ?_;refine tkC 4 hS (fun _ h => h.f5) ?_;refine tkH 5 hS ?_;refine tkH 6 hS ?_;refine tkH 7 hS ?_;refine tkC 8 hS (fun _ h => h.f5) ?_;refine wpAnyH_ready (rs := [9]) (by kernel_rfl) (by simp) ?_;refine' AllReadyH.cons (o := ?oor10) ?hor10 (fun K hK => ?str10) AllReadyH.nil
 case hor10 =>
  simp only [qa, qb, qc];exact rfl
 have fr := Dr.f4;have fn := Dn.f4;have fR := R.f;go_simp
 clear fr fn fR;obtain ⟨Dr, Dn, R, P, X1⟩ := (fun o0 o1 o2 o3 => And.intro (Dr.puts4 o0 o1 o2 o3) (And.intro (Dn.fars4 (w.heap.size) (by omega) o0 o1 o2 o3) (And.intro (R.fars4 (w.heap.size) (by omega) o0 o1 o2 o3) (And.intro (P.sets4 (w.heap.size) (by omega) o0 o1 o2 o3) (X1.sets4 (w.heap.size) (by omega) o0 o1 o2 o3))))) (.int .u8 0) (.bool false) (.slice none 0 0) (.slice none 0 0);refine hK.out _ _ ?_ (fun hS => ?_)
 · exact R.cells
 generalize ((((v1).setCell ⟨w.heap.size, 0, none⟩ (.int .u8 0)).setCell ⟨w.heap.size, 1, none⟩ (.bool false)).setCell ⟨w.heap.size, 2, none⟩ (.slice none 0 0)).setCell ⟨w.heap.size, 3, none⟩ (.slice none 0 0) = u11x at *;clear hK K
 (try simp only [Act.put, qd, qe, qf])
 refine tkH 10 hS ?_;refine tkH 11 hS ?_;refine wpAnyH_done (by kernel_rfl) ?_ _;clear hS;have fr := Dr.f4;have fn := Dn.f4;have fR := R.f;go_wp2
 refine bodyPost_ret (v := .tuple #[ndV nd0, .int .i64 ((j : Int)), .int .i64 ((er : Int))]) (by simp [results, Tryz.results24, go_sem, fr, nd0]; try rfl) rfl ?_;exact ⟨kq_below P (by omega), nd0, _, _, rfl, rfl, rfl, hne⟩
set_option maxHeartbeats 4000000 in
theorem rcompile_m (s : ByteArray) (l : List UInt8) (hud : s.data.toList = l) (hl : l.length ≤ 64) (w : World) (p : Rx.Pt) (j : Nat) (hj : j < l.length) (hT : Rx.choiceF (Rx.innerF l 9) l 0 = .ok p j) : Calls Tryz.prog 24 #[.string s] w (RCP w (.bad 2 j)) := by
 have hsz : s.size = l.length := by rw [Lib.size_eq, hud]
 have d1 : decide ((64 : Int) < (s.size : Int)) = false := decide_eq_false (by omega);have d2 : decide (64 < s.size) = false := decide_eq_false (by omega);have d3 : decide ((64 : Int) < (l.length : Int)) = false := decide_eq_false (by omega);have d4 : decide (64 < l.length) = false := decide_eq_false (by omega);have HUD := Lib.hid hud;have HC := fun b W h => rchoice_top b s l (0 : Int) (0 : Int) 0 W h
 rw [hT] at HC;have HC := Lib.hid HC;clear hT hud;go_enter Tryz.func24, Tryz.ntmps24
 go_wp2_with fail
 have B := Below.refl w.heap.size w;have Dr := ((At.nwn (w.heap.size) (w) 0 false none 0 0 none 0 0).alloc (.cells #[.string s, .int .i64 0, .int .i64 0, .int .i64 0, .int .i64 0] 79))
 have Dp := (At.nwb (w.heap.size + 1) ((w).alloc (nC 0 false none 0 0 none 0 0)) [.string s, .int .i64 0, .int .i64 0, .int .i64 0, .int .i64 0] 79)
 have B := (below_new (below_new B (nC 0 false none 0 0 none 0 0)) (.cells #[.string s, .int .i64 0, .int .i64 0, .int .i64 0, .int .i64 0] 79));generalize ((w).alloc (nC 0 false none 0 0 none 0 0)).alloc (.cells #[.string s, .int .i64 0, .int .i64 0, .int .i64 0, .int .i64 0] 79) = v0 at *;obtain ⟨b, hb⟩ : ∃ b, b = w.heap.size + 1 := ⟨_, rfl⟩;rw [← hb] at Dp ⊢;have hrb : w.heap.size < b := by omega
 clear hb;have R : Pa b s l 0 0 0 0 0 0 v0 := ⟨HUD.out, hl, Nat.zero_le _, rfl, rfl, Nat.zero_le _, Dp⟩;have P : Kq b w v0 := ⟨B.os, B.tape, B.output, B.size, fun i hi _ => B.block i hi⟩;have hwv := B.size;have hrv := Dr.lt;clear Dp;have ltr := Dr.lt;have ltR := R.cells.lt;refine (HC.out b _ R).mono ?_;rintro e w1 ⟨xn, z1, dz2, bad, pos, k1, rfl, R2, P2, hst⟩;have Dr := Dr.kq P2 (by omega);have P := P.trans P2;have P3 := P2;have R := R2;clear R2 P2;have ltRX1 := ltR;clear ltR;have ltrX1 := ltr;clear ltr;have X1 := Kx.refl (v0.heap.size) w1;have fr := Dr.f4;have fR := R.f;clear P3;obtain ⟨xo, xb, sa, sl, sc, ka, kl, kc⟩ := xn;obtain ⟨rfl, rfl, rfl, -⟩ := hst;obtain rfl := R.hk;have hq : (k1 : Int) < (l.length : Int) := by omega
 have hq2 : decide ((k1 : Int) < (l.length : Int)) = true := decide_eq_true hq;go_upto_region 5 with (fail)
 clear fr fR;have ur1 := Dr.lt;have uR1 := R.cells.lt;have Dn := At.nwn _ (w1) xo xb sa sl sc ka kl kc rfl;obtain ⟨Dr, R, P⟩ := (fun o => And.intro (Dr.alloc o) (And.intro (R.alloc o) (P.alloc o))) (nC xo xb sa sl sc ka kl kc);have X1le := X1.le;have X1 := (X1.alloc (nC xo xb sa sl sc ka kl kc));generalize (w1).alloc (nC xo xb sa sl sc ka kl kc) = v2 at *;have fr := Dr.f4;have fn := Dn.f4;have fR := R.f;go_wp2_with fail
 clear fr fn fR;have ltr := Dr.lt;have ltn := Dn.lt;have ltR := R.cells.lt;refine (pfail_any b s l _ _ _ _ _ _ _ _ R).mono ?_;rintro e w2 ⟨rfl, R2, P2⟩;have Dr := Dr.kq P2 (by omega);have Dn := Dn.kq P2 (by omega);have X1 := X1.kq P2 (by omega);have P := P.trans P2;have P3 := P2;have R := R2;clear R2 P2;clear ltR ltr ltn;have fr := Dr.f4;have fn := Dn.f4;have fR := R.f;go_upto_region 8 with (fail)
 clear fr fn fR;have Dr : At ((w2).drew) (w.heap.size) [.int .u8 0, .bool false, .slice none 0 0, .slice none 0 0] := Dr.drew;have Dn : At ((w2).drew) (w1.heap.size) [.int .u8 xo, .bool xb, .slice sa sl sc, .slice ka kl kc] := Dn.drew;have R := R.drew;have P := P.drew;have X1 := X1.drew;refine wp_region_held_drew (S := fun u => At u b [.string s, .int .i64 ((k1 : Int)), .int .i64 (dz2), .int .i64 (2), .int .i64 ((k1 : Int))]) (by kernel_rfl) ?_ (fun hS => ?_)
 ·
  exact R.cells
 generalize (w2).drew = v2 at *;refine tkH 0 hS ?_;refine tkH 1 hS ?_;refine tkH 2 hS ?_;refine tkH 3 hS ?_;refine tkC 4 hS (fun _ h => h.f5) ?_;refine tkH 5 hS ?_;refine tkH 6 hS ?_;refine tkH 7 hS ?_;refine tkC 8 hS (fun _ h => h.f5) ?_;refine wpAnyH_ready (rs := [9]) (by kernel_rfl) (by simp) ?_;refine' AllReadyH.cons (o := ?oor23) ?hor23 (fun K hK => ?str23) AllReadyH.nil
 case hor23 =>
  simp only [qa, qb, qc];exact rfl
 have fr := Dr.f4;have fn := Dn.f4;have fR := R.f;go_simp
 clear fr fn fR;obtain ⟨Dr, Dn, R, P, X1⟩ := (fun o0 o1 o2 o3 => And.intro (Dr.puts4 o0 o1 o2 o3) (And.intro (Dn.fars4 (w.heap.size) (by omega) o0 o1 o2 o3) (And.intro (R.fars4 (w.heap.size) (by omega) o0 o1 o2 o3) (And.intro (P.sets4 (w.heap.size) (by omega) o0 o1 o2 o3) (X1.sets4 (w.heap.size) (by omega) o0 o1 o2 o3))))) (.int .u8 0) (.bool false) (.slice none 0 0) (.slice none 0 0);refine hK.out _ _ ?_ (fun hS => ?_)
 · exact R.cells
 generalize ((((v2).setCell ⟨w.heap.size, 0, none⟩ (.int .u8 0)).setCell ⟨w.heap.size, 1, none⟩ (.bool false)).setCell ⟨w.heap.size, 2, none⟩ (.slice none 0 0)).setCell ⟨w.heap.size, 3, none⟩ (.slice none 0 0) = u12x at *;clear hK K
 (try simp only [Act.put, qd, qe, qf])
 refine tkH 10 hS ?_;refine tkH 11 hS ?_;refine wpAnyH_done (by kernel_rfl) ?_ _;clear hS;have fr := Dr.f4;have fn := Dn.f4;have fR := R.f;go_wp2
 refine bodyPost_ret (v := .tuple #[ndV nd0, .int .i64 (k1 : Int), .int .i64 2]) (by simp [results, Tryz.results24, go_sem, fr, nd0]; try rfl) rfl ?_;exact ⟨kq_below P (by omega), nd0, _, _, rfl, rfl, rfl, by decide⟩
set_option maxHeartbeats 4000000 in
theorem rcompile_g (s : ByteArray) (l : List UInt8) (hud : s.data.toList = l) (hl : l.length ≤ 64) (w : World) (p : Rx.Pt) (j : Nat) (hj : ¬ j < l.length) (hT : Rx.choiceF (Rx.innerF l 9) l 0 = .ok p j) : Calls Tryz.prog 24 #[.string s] w (RCP w (.ok p 0)) := by
 have hsz : s.size = l.length := by rw [Lib.size_eq, hud]
 have d1 : decide ((64 : Int) < (s.size : Int)) = false := decide_eq_false (by omega);have d2 : decide (64 < s.size) = false := decide_eq_false (by omega);have d3 : decide ((64 : Int) < (l.length : Int)) = false := decide_eq_false (by omega);have d4 : decide (64 < l.length) = false := decide_eq_false (by omega);have HUD := Lib.hid hud;have HC := fun b W h => rchoice_top b s l (0 : Int) (0 : Int) 0 W h
 rw [hT] at HC;have HC := Lib.hid HC;clear hT hud;go_enter Tryz.func24, Tryz.ntmps24
 go_wp2_with fail
 have B := Below.refl w.heap.size w;have Dr := ((At.nwn (w.heap.size) (w) 0 false none 0 0 none 0 0).alloc (.cells #[.string s, .int .i64 0, .int .i64 0, .int .i64 0, .int .i64 0] 79))
 have Dp := (At.nwb (w.heap.size + 1) ((w).alloc (nC 0 false none 0 0 none 0 0)) [.string s, .int .i64 0, .int .i64 0, .int .i64 0, .int .i64 0] 79)
 have B := (below_new (below_new B (nC 0 false none 0 0 none 0 0)) (.cells #[.string s, .int .i64 0, .int .i64 0, .int .i64 0, .int .i64 0] 79));generalize ((w).alloc (nC 0 false none 0 0 none 0 0)).alloc (.cells #[.string s, .int .i64 0, .int .i64 0, .int .i64 0, .int .i64 0] 79) = v0 at *;obtain ⟨b, hb⟩ : ∃ b, b = w.heap.size + 1 := ⟨_, rfl⟩;rw [← hb] at Dp ⊢;have hrb : w.heap.size < b := by omega
 clear hb;have R : Pa b s l 0 0 0 0 0 0 v0 := ⟨HUD.out, hl, Nat.zero_le _, rfl, rfl, Nat.zero_le _, Dp⟩;have P : Kq b w v0 := ⟨B.os, B.tape, B.output, B.size, fun i hi _ => B.block i hi⟩;have hwv := B.size;have hrv := Dr.lt;clear Dp;have ltr := Dr.lt;have ltR := R.cells.lt;refine (HC.out b _ R).mono ?_;rintro e w1 ⟨xn, z1, dz2, bad, pos, k1, rfl, R2, P2, hst⟩;have Dr := Dr.kq P2 (by omega);have P := P.trans P2;have P3 := P2;have R := R2;clear R2 P2;have ltRX1 := ltR;clear ltR;have ltrX1 := ltr;clear ltr;have X1 := Kx.refl (v0.heap.size) w1;have fr := Dr.f4;have fR := R.f;clear P3;obtain ⟨xo, xb, sa, sl, sc, ka, kl, kc⟩ := xn;obtain ⟨rfl, rfl, rfl, d, hnd⟩ := hst;have HN := Lib.hid hnd;clear hnd;obtain rfl := R.hk;have hq2 : decide ((k1 : Int) < (l.length : Int)) = false := decide_eq_false (by omega);have hq3 : decide (k1 < l.length) = false := decide_eq_false hj;go_upto_region 5 with (fail)
 clear fr fR;have ur1 := Dr.lt;have uR1 := R.cells.lt;have Dn := At.nwn _ (w1) xo xb sa sl sc ka kl kc rfl;obtain ⟨Dr, R, P⟩ := (fun o => And.intro (Dr.alloc o) (And.intro (R.alloc o) (P.alloc o))) (nC xo xb sa sl sc ka kl kc);have X1le := X1.le;have X1 := (X1.alloc (nC xo xb sa sl sc ka kl kc));generalize (w1).alloc (nC xo xb sa sl sc ka kl kc) = v2 at *;have fr := Dr.f4;have fn := Dn.f4;have fR := R.f;go_wp2
 clear fr fn fR;obtain ⟨Dr, Dn, R, P, X1⟩ := (fun o0 o1 o2 o3 => And.intro (Dr.puts4 o0 o1 o2 o3) (And.intro (Dn.fars4 (w.heap.size) (by omega) o0 o1 o2 o3) (And.intro (R.fars4 (w.heap.size) (by omega) o0 o1 o2 o3) (And.intro (P.sets4 (w.heap.size) (by omega) o0 o1 o2 o3) (X1.sets4 (w.heap.size) (by omega) o0 o1 o2 o3))))) (.int .u8 xo) (.bool xb) (.slice sa sl sc) (.slice ka kl kc);generalize ((((v2).setCell ⟨w.heap.size, 0, none⟩ (.int .u8 xo)).setCell ⟨w.heap.size, 1, none⟩ (.bool xb)).setCell ⟨w.heap.size, 2, none⟩ (.slice sa sl sc)).setCell ⟨w.heap.size, 3, none⟩ (.slice ka kl kc) = v9 at *;have fr := Dr.f4;have fn := Dn.f4;have fR := R.f;refine bodyPost_ret (v := .tuple #[ndV ⟨xo, xb, sa, sl, sc, ka, kl, kc⟩, .int .i64 0, .int .i64 0]) (by simp [results, Tryz.results24, go_sem, fr]; try rfl) rfl ?_;exact ⟨kq_below P (by omega), ⟨xo, xb, sa, sl, sc, ka, kl, kc⟩, _, _, rfl, rfl, rfl, d, HN.out.keep (fun g hg => ⟨Nat.le_trans hwv hg.1, Nat.lt_of_lt_of_le hg.2 X1.le⟩) (fun g hg => X1.same g hg.1 hg.2)⟩
theorem rcompile_any (s : ByteArray) (l : List UInt8) (hud : s.data.toList = l) (w : World) : Calls Tryz.prog 24 #[.string s] w (RCP w (Rx.compileF l)) := by
 have hsz : s.size = l.length := by rw [Lib.size_eq, hud]
 unfold Rx.compileF;by_cases hl : 64 < l.length
 ·
  rw [if_pos hl]; exact rcompile_l s (by omega) w
 ·
  rw [if_neg hl];cases hT : Rx.choiceF (Rx.innerF l 9) l 0 with
  | bad er j => exact rcompile_b s l hud (by omega) w er j hT
  | ok p j =>
   dsimp only;by_cases hj : j < l.length
   ·
    rw [if_pos hj]; exact rcompile_m s l hud (by omega) w p j hj hT
   ·
    rw [if_neg hj]; exact rcompile_g s l hud (by omega) w p j hj hT
end Go.Proofs.YthdoniefjmphaaaGreatDoor
