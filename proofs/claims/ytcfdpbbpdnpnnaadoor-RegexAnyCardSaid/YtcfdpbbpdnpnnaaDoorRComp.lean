/- The reference's choice, row, atom, group: read as the mathematics says, to any depth. -/
import Derived.Test.YtcfdpbbpdnpnnaaDoorRRow
import Derived.Test.YtcfdpbbpdnpnnaaDoorRSet
namespace Go.Proofs.YtcfdpbbpdnpnnaaDoor
open Go Go.Proofs Go.RowKit Go.Shelf
set_option maxRecDepth 100000
theorem rchoice_deep (b : Nat) (s : ByteArray) (l : List UInt8) : ∀ (d dp : Nat), dp + d = 9 → RChoiceOK b s l dp (Rx.innerF l d) := by
  intro d
  induction d with
  | zero =>
    intro dp hd
    have hG : GroupOK b s l dp (Rx.innerF l 0) := rgroup_any b s l dp 0 hd (fun d' e => by omega)
    have hA : RAtomOK b s l dp (Rx.innerF l 0) := fun z dz k w R => ratom_any b s l z dz k dp w R _ hG (fun W h h91 => rset_any b s l _ dz k dp W h h91)
    exact rchoice_any b s l dp _ (Rx.inner_goes 0) (rrow_any b s l dp _ (Rx.inner_goes 0) hA)
  | succ d ih =>
    intro dp hd
    have hG : GroupOK b s l dp (Rx.innerF l (d + 1)) := rgroup_any b s l dp (d + 1) hd (fun d' e => by obtain rfl : d = d' := (by omega); exact ih (dp + 1) (by omega))
    have hA : RAtomOK b s l dp (Rx.innerF l (d + 1)) := fun z dz k w R => ratom_any b s l z dz k dp w R _ hG (fun W h h91 => rset_any b s l _ dz k dp W h h91)
    exact rchoice_any b s l dp _ (Rx.inner_goes (d + 1)) (rrow_any b s l dp _ (Rx.inner_goes (d + 1)) hA)
theorem rchoice_top (b : Nat) (s : ByteArray) (l : List UInt8) : RChoiceOK b s l 0 (Rx.innerF l 9) := rchoice_deep b s l 9 0 rfl
end Go.Proofs.YtcfdpbbpdnpnnaaDoor
/- The reference: Compile. -/
namespace Go.Proofs.YtcfdpbbpdnpnnaaDoor
open Go Go.Proofs Go.RowKit Go.Shelf
set_option maxRecDepth 100000
attribute [local go_sem] cell_set ndV
def RCP (w : World) (r : Rx.Res Rx.Pt) (e : Ending) (w' : World) : Prop :=
 Below w.heap.size w w' ∧ ∃ (x : Nd) (at_ er_ : Int), e = .returned (.tuple #[ndV x, .int .i64 at_, .int .i64 er_]) ∧ match r with
  | .ok p _ => at_ = 0 ∧ er_ = 0 ∧ ∃ d, NodeIs (Rng w w') w' d x p
  | .bad er j => er_ = (er : Int) ∧ at_ = (j : Int) ∧ er ≠ 0
theorem kq_below {b : Nat} {w w' : World} (k : Kq b w w') (hb : w.heap.size ≤ b) : Below w.heap.size w w' := ⟨k.os, k.tape, k.output, k.size, fun i hi => k.block i hi (by omega)⟩
set_option maxHeartbeats 2000000 in
theorem rcompile_l (s : ByteArray) (hl : 64 < s.size) (w : World) : Calls Tryd.prog 10 #[.string s] w (RCP w (.bad 4 0)) := by
 have d1 : decide ((64 : Int) < (s.size : Int)) = true := decide_eq_true (by omega)
 have d2 : decide (64 < s.size) = true := decide_eq_true hl
 go_enter Tryd.func10, Tryd.ntmps10
 go_wp2_with fail
 have B := Below.refl w.heap.size w
 have Dr : At ((w).alloc (.cells #[.int .u8 0, .bool false, .slice none 0 0, .slice none 0 0] 30)) (w.heap.size) [.int .u8 0, .bool false, .slice none 0 0, .slice none 0 0] := by have h := (At.new (w) #[.int .u8 0, .bool false, .slice none 0 0, .slice none 0 0] 30); simpa using h
 have B := (below_new B (.cells #[.int .u8 0, .bool false, .slice none 0 0, .slice none 0 0] 30))
 generalize (w).alloc (.cells #[.int .u8 0, .bool false, .slice none 0 0, .slice none 0 0] 30) = v9 at *
 have fr := Dr.f4
 refine bodyPost_ret (v := .tuple #[ndV nd0, .int .i64 0, .int .i64 4]) (by simp [results, Tryd.results10, go_sem, fr, nd0]; try rfl) rfl ?_
 exact ⟨B, nd0, _, _, rfl, rfl, rfl, by decide⟩
set_option maxHeartbeats 4000000 in
theorem rcompile_b (s : ByteArray) (l : List UInt8) (hud : s.data.toList = l) (hl : l.length ≤ 64) (w : World) (er j : Nat) (hT : Rx.choiceF (Rx.innerF l 9) l 0 = .bad er j) : Calls Tryd.prog 10 #[.string s] w (RCP w (.bad er j)) := by
 have hsz : s.size = l.length := by rw [Lib.size_eq, hud]
 have d1 : decide ((64 : Int) < (s.size : Int)) = false := decide_eq_false (by omega)
 have d2 : decide (64 < s.size) = false := decide_eq_false (by omega)
 have d3 : decide ((64 : Int) < (l.length : Int)) = false := decide_eq_false (by omega)
 have d4 : decide (64 < l.length) = false := decide_eq_false (by omega)
 have HUD := Lib.hid hud
 have HC := fun b W h => rchoice_top b s l (0 : Int) (0 : Int) 0 W h
 rw [hT] at HC
 have HC := Lib.hid HC
 clear hT hud
 go_enter Tryd.func10, Tryd.ntmps10
 go_wp2_with fail
 have B := Below.refl w.heap.size w
 have Dr : At (((w).alloc (.cells #[.int .u8 0, .bool false, .slice none 0 0, .slice none 0 0] 30)).alloc (.cells #[.string s, .int .i64 0, .int .i64 0, .int .i64 0, .int .i64 0] 61)) (w.heap.size) [.int .u8 0, .bool false, .slice none 0 0, .slice none 0 0] := by have h := ((At.new (w) #[.int .u8 0, .bool false, .slice none 0 0, .slice none 0 0] 30).alloc (.cells #[.string s, .int .i64 0, .int .i64 0, .int .i64 0, .int .i64 0] 61)); simpa using h
 have Dp : At (((w).alloc (.cells #[.int .u8 0, .bool false, .slice none 0 0, .slice none 0 0] 30)).alloc (.cells #[.string s, .int .i64 0, .int .i64 0, .int .i64 0, .int .i64 0] 61)) (w.heap.size + 1) [.string s, .int .i64 0, .int .i64 0, .int .i64 0, .int .i64 0] := by have h := (At.new ((w).alloc (.cells #[.int .u8 0, .bool false, .slice none 0 0, .slice none 0 0] 30)) #[.string s, .int .i64 0, .int .i64 0, .int .i64 0, .int .i64 0] 61); simpa using h
 have B := (below_new (below_new B (.cells #[.int .u8 0, .bool false, .slice none 0 0, .slice none 0 0] 30)) (.cells #[.string s, .int .i64 0, .int .i64 0, .int .i64 0, .int .i64 0] 61))
 generalize ((w).alloc (.cells #[.int .u8 0, .bool false, .slice none 0 0, .slice none 0 0] 30)).alloc (.cells #[.string s, .int .i64 0, .int .i64 0, .int .i64 0, .int .i64 0] 61) = v0 at *
 obtain ⟨b, hb⟩ : ∃ b, b = w.heap.size + 1 := ⟨_, rfl⟩
 rw [← hb] at Dp ⊢
 have hrb : w.heap.size < b := by omega
 clear hb
 have R : Pa b s l 0 0 0 0 0 0 v0 := ⟨HUD.out, hl, Nat.zero_le _, rfl, rfl, Nat.zero_le _, Dp⟩
 have P : Kq b w v0 := ⟨B.os, B.tape, B.output, B.size, fun i hi _ => B.block i hi⟩
 have hwv := B.size
 have hrv := Dr.lt
 clear Dp
 have ltr := Dr.lt
 have ltR := R.cells.lt
 refine (HC.out b _ R).mono ?_
 rintro e w1 ⟨xn, z1, dz2, bad, pos, k1, rfl, R2, P2, hst⟩
 have Dr := Dr.kq P2 (by omega)
 have P := P.trans P2
 have P3 := P2
 have R := R2
 clear R2 P2
 have ltRX1 := ltR
 clear ltR
 have ltrX1 := ltr
 clear ltr
 have X1 := Kx.refl (v0.heap.size) w1
 have fr := Dr.f4
 have fR := R.f
 clear P3
 obtain ⟨xo, xb, sa, sl, sc, ka, kl, kc⟩ := xn
 obtain ⟨rfl, rfl, hne⟩ := hst
 have hne2 : ((er : Int) == 0) = false := by rw [beq_eq_false_iff_ne]; omega
 have hne3 : ((er : Int) != 0) = true := by rw [bne_iff_ne]; omega
 go_upto_region 8 with (fail)
 clear fr fR
 have ur1 := Dr.lt
 have uR1 := R.cells.lt
 have Dn : At ((w1).alloc (.cells #[.int .u8 xo, .bool xb, .slice sa sl sc, .slice ka kl kc] 30)) (w1.heap.size) [.int .u8 xo, .bool xb, .slice sa sl sc, .slice ka kl kc] := by have h := (At.new (w1) #[.int .u8 xo, .bool xb, .slice sa sl sc, .slice ka kl kc] 30); simpa using h
 have Dr := (Dr.alloc (.cells #[.int .u8 xo, .bool xb, .slice sa sl sc, .slice ka kl kc] 30))
 have R := (R.alloc (.cells #[.int .u8 xo, .bool xb, .slice sa sl sc, .slice ka kl kc] 30))
 have P := (P.alloc (.cells #[.int .u8 xo, .bool xb, .slice sa sl sc, .slice ka kl kc] 30))
 have X1le := X1.le
 have X1 := (X1.alloc (.cells #[.int .u8 xo, .bool xb, .slice sa sl sc, .slice ka kl kc] 30))
 generalize (w1).alloc (.cells #[.int .u8 xo, .bool xb, .slice sa sl sc, .slice ka kl kc] 30) = v2 at *
 have fr := Dr.f4
 have fn := Dn.f4
 have fR := R.f
 clear fr fn fR
 have Dr : At ((v2).drew) (w.heap.size) [.int .u8 0, .bool false, .slice none 0 0, .slice none 0 0] := Dr.drew
 have Dn : At ((v2).drew) (w1.heap.size) [.int .u8 xo, .bool xb, .slice sa sl sc, .slice ka kl kc] := Dn.drew
 have R := R.drew
 have P := P.drew
 have X1 := X1.drew
 refine wp_region_held_drew (S := fun u => At u b [.string s, .int .i64 (z1), .int .i64 (dz2), .int .i64 ((er : Int)), .int .i64 ((j : Int))]) (by kernel_rfl) ?_ (fun hS => ?_)
 ·
  exact R.cells
 generalize (v2).drew = v1 at *
 refine' wpAnyH_take (i := 0) (oi := ?oir1) (v := ?vr1) ?hir1 (by kernel_rfl) (by kernel_rfl) (by kernel_rfl) ?hQr1 ?hyr1 hS ?restr1
 case hir1 =>
  simp only [qa, qb, qc]
  exact rfl
 case hQr1 => exact fun _ _ _ h => h
 case hyr1 =>
  refine Or.inl ⟨by rfl, ?_⟩
  intro u hSw
  go_simp
  (try with_reducible rfl)
 (try simp only [Act.put, qd, qe, qf])
 refine' wpAnyH_take (i := 1) (oi := ?oir2) (v := ?vr2) ?hir2 (by kernel_rfl) (by kernel_rfl) (by kernel_rfl) ?hQr2 ?hyr2 hS ?restr2
 case hir2 =>
  simp only [qa, qb, qc]
  exact rfl
 case hQr2 => exact fun _ _ _ h => h
 case hyr2 =>
  refine Or.inl ⟨by rfl, ?_⟩
  intro u hSw
  go_simp
  (try with_reducible rfl)
 (try simp only [Act.put, qd, qe, qf])
 refine' wpAnyH_take (i := 2) (oi := ?oir3) (v := ?vr3) ?hir3 (by kernel_rfl) (by kernel_rfl) (by kernel_rfl) ?hQr3 ?hyr3 hS ?restr3
 case hir3 =>
  simp only [qa, qb, qc]
  exact rfl
 case hQr3 => exact fun _ _ _ h => h
 case hyr3 =>
  refine Or.inl ⟨by rfl, ?_⟩
  intro u hSw
  go_simp
  (try with_reducible rfl)
 (try simp only [Act.put, qd, qe, qf])
 refine' wpAnyH_take (i := 3) (oi := ?oir4) (v := ?vr4) ?hir4 (by kernel_rfl) (by kernel_rfl) (by kernel_rfl) ?hQr4 ?hyr4 hS ?restr4
 case hir4 =>
  simp only [qa, qb, qc]
  exact rfl
 case hQr4 => exact fun _ _ _ h => h
 case hyr4 =>
  refine Or.inl ⟨by rfl, ?_⟩
  intro u hSw
  go_simp
  (try with_reducible rfl)
 (try simp only [Act.put, qd, qe, qf])
 refine' wpAnyH_take (i := 4) (oi := ?oir5) (v := ?vr5) ?hir5 (by kernel_rfl) (by kernel_rfl) (by kernel_rfl) ?hQr5 ?hyr5 hS ?restr5
 case hir5 =>
  simp only [qa, qb, qc]
  exact rfl
 case hQr5 => exact fun _ _ _ h => h
 case hyr5 =>
  refine Or.inl ⟨by rfl, ?_⟩
  intro u hSw
  have eR := hSw
  have kR0 := eR.cell 0 _ rfl
  have kR1 := eR.cell 1 _ rfl
  have kR2 := eR.cell 2 _ rfl
  have kR3 := eR.cell 3 _ rfl
  have kR4 := eR.cell 4 _ rfl
  have mR := eR.lt
  clear eR
  go_simp
  (try with_reducible rfl)
 (try simp only [Act.put, qd, qe, qf])
 refine' wpAnyH_take (i := 5) (oi := ?oir6) (v := ?vr6) ?hir6 (by kernel_rfl) (by kernel_rfl) (by kernel_rfl) ?hQr6 ?hyr6 hS ?restr6
 case hir6 =>
  simp only [qa, qb, qc]
  exact rfl
 case hQr6 => exact fun _ _ _ h => h
 case hyr6 =>
  refine Or.inl ⟨by rfl, ?_⟩
  intro u hSw
  go_simp
  (try with_reducible rfl)
 (try simp only [Act.put, qd, qe, qf])
 refine' wpAnyH_take (i := 6) (oi := ?oir7) (v := ?vr7) ?hir7 (by kernel_rfl) (by kernel_rfl) (by kernel_rfl) ?hQr7 ?hyr7 hS ?restr7
 case hir7 =>
  simp only [qa, qb, qc]
  exact rfl
 case hQr7 => exact fun _ _ _ h => h
 case hyr7 =>
  refine Or.inl ⟨by rfl, ?_⟩
  intro u hSw
  go_simp
  (try with_reducible rfl)
 (try simp only [Act.put, qd, qe, qf])
 refine' wpAnyH_take (i := 7) (oi := ?oir8) (v := ?vr8) ?hir8 (by kernel_rfl) (by kernel_rfl) (by kernel_rfl) ?hQr8 ?hyr8 hS ?restr8
 case hir8 =>
  simp only [qa, qb, qc]
  exact rfl
 case hQr8 => exact fun _ _ _ h => h
 case hyr8 =>
  refine Or.inl ⟨by rfl, ?_⟩
  intro u hSw
  go_simp
  (try with_reducible rfl)
 (try simp only [Act.put, qd, qe, qf])
 refine' wpAnyH_take (i := 8) (oi := ?oir9) (v := ?vr9) ?hir9 (by kernel_rfl) (by kernel_rfl) (by kernel_rfl) ?hQr9 ?hyr9 hS ?restr9
 case hir9 =>
  simp only [qa, qb, qc]
  exact rfl
 case hQr9 => exact fun _ _ _ h => h
 case hyr9 =>
  refine Or.inl ⟨by rfl, ?_⟩
  intro u hSw
  have eR := hSw
  have kR0 := eR.cell 0 _ rfl
  have kR1 := eR.cell 1 _ rfl
  have kR2 := eR.cell 2 _ rfl
  have kR3 := eR.cell 3 _ rfl
  have kR4 := eR.cell 4 _ rfl
  have mR := eR.lt
  clear eR
  go_simp
  (try with_reducible rfl)
 (try simp only [Act.put, qd, qe, qf])
 refine wpAnyH_ready (rs := [9]) (by kernel_rfl) (by simp) ?_
 refine' AllReadyH.cons (o := ?oor10) ?hor10 (fun K hK => ?str10) AllReadyH.nil
 case hor10 =>
  simp only [qa, qb, qc]
  exact rfl
 have fr := Dr.f4
 have fn := Dn.f4
 have fR := R.f
 go_simp
 clear fr fn fR
 have Dr := (Dr.puts4 (.int .u8 0) (.bool false) (.slice none 0 0) (.slice none 0 0))
 have Dn := (Dn.fars4 (w.heap.size) (by omega) (.int .u8 0) (.bool false) (.slice none 0 0) (.slice none 0 0))
 have R := (R.fars4 (w.heap.size) (by omega) (.int .u8 0) (.bool false) (.slice none 0 0) (.slice none 0 0))
 have P := (P.sets4 (w.heap.size) (by omega) (.int .u8 0) (.bool false) (.slice none 0 0) (.slice none 0 0))
 have X1 := (X1.sets4 (w.heap.size) (by omega) (.int .u8 0) (.bool false) (.slice none 0 0) (.slice none 0 0))
 refine hK.out _ _ ?_ (fun hS => ?_)
 · exact R.cells
 generalize ((((v1).setCell ⟨w.heap.size, 0, none⟩ (.int .u8 0)).setCell ⟨w.heap.size, 1, none⟩ (.bool false)).setCell ⟨w.heap.size, 2, none⟩ (.slice none 0 0)).setCell ⟨w.heap.size, 3, none⟩ (.slice none 0 0) = u11x at *
 clear hK K
 (try simp only [Act.put, qd, qe, qf])
 refine' wpAnyH_take (i := 10) (oi := ?oir11) (v := ?vr11) ?hir11 (by kernel_rfl) (by kernel_rfl) (by kernel_rfl) ?hQr11 ?hyr11 hS ?restr11
 case hir11 =>
  simp only [qa, qb, qc]
  exact rfl
 case hQr11 => exact fun _ _ _ h => h
 case hyr11 =>
  refine Or.inl ⟨by rfl, ?_⟩
  intro u hSw
  go_simp
  (try with_reducible rfl)
 (try simp only [Act.put, qd, qe, qf])
 refine' wpAnyH_take (i := 11) (oi := ?oir12) (v := ?vr12) ?hir12 (by kernel_rfl) (by kernel_rfl) (by kernel_rfl) ?hQr12 ?hyr12 hS ?restr12
 case hir12 =>
  simp only [qa, qb, qc]
  exact rfl
 case hQr12 => exact fun _ _ _ h => h
 case hyr12 =>
  refine Or.inl ⟨by rfl, ?_⟩
  intro u hSw
  go_simp
  (try with_reducible rfl)
 (try simp only [Act.put, qd, qe, qf])
 refine wpAnyH_done (by kernel_rfl) ?_ _
 clear hS
 have fr := Dr.f4
 have fn := Dn.f4
 have fR := R.f
 go_wp2
 refine bodyPost_ret (v := .tuple #[ndV nd0, .int .i64 ((j : Int)), .int .i64 ((er : Int))]) (by simp [results, Tryd.results10, go_sem, fr, nd0]; try rfl) rfl ?_
 exact ⟨kq_below P (by omega), nd0, _, _, rfl, rfl, rfl, hne⟩
set_option maxHeartbeats 4000000 in
theorem rcompile_m (s : ByteArray) (l : List UInt8) (hud : s.data.toList = l) (hl : l.length ≤ 64) (w : World) (p : Rx.Pt) (j : Nat) (hj : j < l.length) (hT : Rx.choiceF (Rx.innerF l 9) l 0 = .ok p j) : Calls Tryd.prog 10 #[.string s] w (RCP w (.bad 2 j)) := by
 have hsz : s.size = l.length := by rw [Lib.size_eq, hud]
 have d1 : decide ((64 : Int) < (s.size : Int)) = false := decide_eq_false (by omega)
 have d2 : decide (64 < s.size) = false := decide_eq_false (by omega)
 have d3 : decide ((64 : Int) < (l.length : Int)) = false := decide_eq_false (by omega)
 have d4 : decide (64 < l.length) = false := decide_eq_false (by omega)
 have HUD := Lib.hid hud
 have HC := fun b W h => rchoice_top b s l (0 : Int) (0 : Int) 0 W h
 rw [hT] at HC
 have HC := Lib.hid HC
 clear hT hud
 go_enter Tryd.func10, Tryd.ntmps10
 go_wp2_with fail
 have B := Below.refl w.heap.size w
 have Dr : At (((w).alloc (.cells #[.int .u8 0, .bool false, .slice none 0 0, .slice none 0 0] 30)).alloc (.cells #[.string s, .int .i64 0, .int .i64 0, .int .i64 0, .int .i64 0] 61)) (w.heap.size) [.int .u8 0, .bool false, .slice none 0 0, .slice none 0 0] := by have h := ((At.new (w) #[.int .u8 0, .bool false, .slice none 0 0, .slice none 0 0] 30).alloc (.cells #[.string s, .int .i64 0, .int .i64 0, .int .i64 0, .int .i64 0] 61)); simpa using h
 have Dp : At (((w).alloc (.cells #[.int .u8 0, .bool false, .slice none 0 0, .slice none 0 0] 30)).alloc (.cells #[.string s, .int .i64 0, .int .i64 0, .int .i64 0, .int .i64 0] 61)) (w.heap.size + 1) [.string s, .int .i64 0, .int .i64 0, .int .i64 0, .int .i64 0] := by have h := (At.new ((w).alloc (.cells #[.int .u8 0, .bool false, .slice none 0 0, .slice none 0 0] 30)) #[.string s, .int .i64 0, .int .i64 0, .int .i64 0, .int .i64 0] 61); simpa using h
 have B := (below_new (below_new B (.cells #[.int .u8 0, .bool false, .slice none 0 0, .slice none 0 0] 30)) (.cells #[.string s, .int .i64 0, .int .i64 0, .int .i64 0, .int .i64 0] 61))
 generalize ((w).alloc (.cells #[.int .u8 0, .bool false, .slice none 0 0, .slice none 0 0] 30)).alloc (.cells #[.string s, .int .i64 0, .int .i64 0, .int .i64 0, .int .i64 0] 61) = v0 at *
 obtain ⟨b, hb⟩ : ∃ b, b = w.heap.size + 1 := ⟨_, rfl⟩
 rw [← hb] at Dp ⊢
 have hrb : w.heap.size < b := by omega
 clear hb
 have R : Pa b s l 0 0 0 0 0 0 v0 := ⟨HUD.out, hl, Nat.zero_le _, rfl, rfl, Nat.zero_le _, Dp⟩
 have P : Kq b w v0 := ⟨B.os, B.tape, B.output, B.size, fun i hi _ => B.block i hi⟩
 have hwv := B.size
 have hrv := Dr.lt
 clear Dp
 have ltr := Dr.lt
 have ltR := R.cells.lt
 refine (HC.out b _ R).mono ?_
 rintro e w1 ⟨xn, z1, dz2, bad, pos, k1, rfl, R2, P2, hst⟩
 have Dr := Dr.kq P2 (by omega)
 have P := P.trans P2
 have P3 := P2
 have R := R2
 clear R2 P2
 have ltRX1 := ltR
 clear ltR
 have ltrX1 := ltr
 clear ltr
 have X1 := Kx.refl (v0.heap.size) w1
 have fr := Dr.f4
 have fR := R.f
 clear P3
 obtain ⟨xo, xb, sa, sl, sc, ka, kl, kc⟩ := xn
 obtain ⟨rfl, rfl, rfl, -⟩ := hst
 obtain rfl := R.hk
 have hq : (k1 : Int) < (l.length : Int) := by omega
 have hq2 : decide ((k1 : Int) < (l.length : Int)) = true := decide_eq_true hq
 go_upto_region 5 with (fail)
 clear fr fR
 have ur1 := Dr.lt
 have uR1 := R.cells.lt
 have Dn : At ((w1).alloc (.cells #[.int .u8 xo, .bool xb, .slice sa sl sc, .slice ka kl kc] 30)) (w1.heap.size) [.int .u8 xo, .bool xb, .slice sa sl sc, .slice ka kl kc] := by have h := (At.new (w1) #[.int .u8 xo, .bool xb, .slice sa sl sc, .slice ka kl kc] 30); simpa using h
 have Dr := (Dr.alloc (.cells #[.int .u8 xo, .bool xb, .slice sa sl sc, .slice ka kl kc] 30))
 have R := (R.alloc (.cells #[.int .u8 xo, .bool xb, .slice sa sl sc, .slice ka kl kc] 30))
 have P := (P.alloc (.cells #[.int .u8 xo, .bool xb, .slice sa sl sc, .slice ka kl kc] 30))
 have X1le := X1.le
 have X1 := (X1.alloc (.cells #[.int .u8 xo, .bool xb, .slice sa sl sc, .slice ka kl kc] 30))
 generalize (w1).alloc (.cells #[.int .u8 xo, .bool xb, .slice sa sl sc, .slice ka kl kc] 30) = v2 at *
 have fr := Dr.f4
 have fn := Dn.f4
 have fR := R.f
 go_wp2_with fail
 clear fr fn fR
 have ltr := Dr.lt
 have ltn := Dn.lt
 have ltR := R.cells.lt
 refine (pfail_any b s l _ _ _ _ _ _ _ _ R).mono ?_
 rintro e w2 ⟨rfl, R2, P2⟩
 have Dr := Dr.kq P2 (by omega)
 have Dn := Dn.kq P2 (by omega)
 have X1 := X1.kq P2 (by omega)
 have P := P.trans P2
 have P3 := P2
 have R := R2
 clear R2 P2
 clear ltR ltr ltn
 have fr := Dr.f4
 have fn := Dn.f4
 have fR := R.f
 go_upto_region 8 with (fail)
 clear fr fn fR
 have Dr : At ((w2).drew) (w.heap.size) [.int .u8 0, .bool false, .slice none 0 0, .slice none 0 0] := Dr.drew
 have Dn : At ((w2).drew) (w1.heap.size) [.int .u8 xo, .bool xb, .slice sa sl sc, .slice ka kl kc] := Dn.drew
 have R := R.drew
 have P := P.drew
 have X1 := X1.drew
 refine wp_region_held_drew (S := fun u => At u b [.string s, .int .i64 ((k1 : Int)), .int .i64 (dz2), .int .i64 (2), .int .i64 ((k1 : Int))]) (by kernel_rfl) ?_ (fun hS => ?_)
 ·
  exact R.cells
 generalize (w2).drew = v2 at *
 refine' wpAnyH_take (i := 0) (oi := ?oir14) (v := ?vr14) ?hir14 (by kernel_rfl) (by kernel_rfl) (by kernel_rfl) ?hQr14 ?hyr14 hS ?restr14
 case hir14 =>
  simp only [qa, qb, qc]
  exact rfl
 case hQr14 => exact fun _ _ _ h => h
 case hyr14 =>
  refine Or.inl ⟨by rfl, ?_⟩
  intro u hSw
  go_simp
  (try with_reducible rfl)
 (try simp only [Act.put, qd, qe, qf])
 refine' wpAnyH_take (i := 1) (oi := ?oir15) (v := ?vr15) ?hir15 (by kernel_rfl) (by kernel_rfl) (by kernel_rfl) ?hQr15 ?hyr15 hS ?restr15
 case hir15 =>
  simp only [qa, qb, qc]
  exact rfl
 case hQr15 => exact fun _ _ _ h => h
 case hyr15 =>
  refine Or.inl ⟨by rfl, ?_⟩
  intro u hSw
  go_simp
  (try with_reducible rfl)
 (try simp only [Act.put, qd, qe, qf])
 refine' wpAnyH_take (i := 2) (oi := ?oir16) (v := ?vr16) ?hir16 (by kernel_rfl) (by kernel_rfl) (by kernel_rfl) ?hQr16 ?hyr16 hS ?restr16
 case hir16 =>
  simp only [qa, qb, qc]
  exact rfl
 case hQr16 => exact fun _ _ _ h => h
 case hyr16 =>
  refine Or.inl ⟨by rfl, ?_⟩
  intro u hSw
  go_simp
  (try with_reducible rfl)
 (try simp only [Act.put, qd, qe, qf])
 refine' wpAnyH_take (i := 3) (oi := ?oir17) (v := ?vr17) ?hir17 (by kernel_rfl) (by kernel_rfl) (by kernel_rfl) ?hQr17 ?hyr17 hS ?restr17
 case hir17 =>
  simp only [qa, qb, qc]
  exact rfl
 case hQr17 => exact fun _ _ _ h => h
 case hyr17 =>
  refine Or.inl ⟨by rfl, ?_⟩
  intro u hSw
  go_simp
  (try with_reducible rfl)
 (try simp only [Act.put, qd, qe, qf])
 refine' wpAnyH_take (i := 4) (oi := ?oir18) (v := ?vr18) ?hir18 (by kernel_rfl) (by kernel_rfl) (by kernel_rfl) ?hQr18 ?hyr18 hS ?restr18
 case hir18 =>
  simp only [qa, qb, qc]
  exact rfl
 case hQr18 => exact fun _ _ _ h => h
 case hyr18 =>
  refine Or.inl ⟨by rfl, ?_⟩
  intro u hSw
  have eR := hSw
  have kR0 := eR.cell 0 _ rfl
  have kR1 := eR.cell 1 _ rfl
  have kR2 := eR.cell 2 _ rfl
  have kR3 := eR.cell 3 _ rfl
  have kR4 := eR.cell 4 _ rfl
  have mR := eR.lt
  clear eR
  go_simp
  (try with_reducible rfl)
 (try simp only [Act.put, qd, qe, qf])
 refine' wpAnyH_take (i := 5) (oi := ?oir19) (v := ?vr19) ?hir19 (by kernel_rfl) (by kernel_rfl) (by kernel_rfl) ?hQr19 ?hyr19 hS ?restr19
 case hir19 =>
  simp only [qa, qb, qc]
  exact rfl
 case hQr19 => exact fun _ _ _ h => h
 case hyr19 =>
  refine Or.inl ⟨by rfl, ?_⟩
  intro u hSw
  go_simp
  (try with_reducible rfl)
 (try simp only [Act.put, qd, qe, qf])
 refine' wpAnyH_take (i := 6) (oi := ?oir20) (v := ?vr20) ?hir20 (by kernel_rfl) (by kernel_rfl) (by kernel_rfl) ?hQr20 ?hyr20 hS ?restr20
 case hir20 =>
  simp only [qa, qb, qc]
  exact rfl
 case hQr20 => exact fun _ _ _ h => h
 case hyr20 =>
  refine Or.inl ⟨by rfl, ?_⟩
  intro u hSw
  go_simp
  (try with_reducible rfl)
 (try simp only [Act.put, qd, qe, qf])
 refine' wpAnyH_take (i := 7) (oi := ?oir21) (v := ?vr21) ?hir21 (by kernel_rfl) (by kernel_rfl) (by kernel_rfl) ?hQr21 ?hyr21 hS ?restr21
 case hir21 =>
  simp only [qa, qb, qc]
  exact rfl
 case hQr21 => exact fun _ _ _ h => h
 case hyr21 =>
  refine Or.inl ⟨by rfl, ?_⟩
  intro u hSw
  go_simp
  (try with_reducible rfl)
 (try simp only [Act.put, qd, qe, qf])
 refine' wpAnyH_take (i := 8) (oi := ?oir22) (v := ?vr22) ?hir22 (by kernel_rfl) (by kernel_rfl) (by kernel_rfl) ?hQr22 ?hyr22 hS ?restr22
 case hir22 =>
  simp only [qa, qb, qc]
  exact rfl
 case hQr22 => exact fun _ _ _ h => h
 case hyr22 =>
  refine Or.inl ⟨by rfl, ?_⟩
  intro u hSw
  have eR := hSw
  have kR0 := eR.cell 0 _ rfl
  have kR1 := eR.cell 1 _ rfl
  have kR2 := eR.cell 2 _ rfl
  have kR3 := eR.cell 3 _ rfl
  have kR4 := eR.cell 4 _ rfl
  have mR := eR.lt
  clear eR
  go_simp
  (try with_reducible rfl)
 (try simp only [Act.put, qd, qe, qf])
 refine wpAnyH_ready (rs := [9]) (by kernel_rfl) (by simp) ?_
 refine' AllReadyH.cons (o := ?oor23) ?hor23 (fun K hK => ?str23) AllReadyH.nil
 case hor23 =>
  simp only [qa, qb, qc]
  exact rfl
 have fr := Dr.f4
 have fn := Dn.f4
 have fR := R.f
 go_simp
 clear fr fn fR
 have Dr := (Dr.puts4 (.int .u8 0) (.bool false) (.slice none 0 0) (.slice none 0 0))
 have Dn := (Dn.fars4 (w.heap.size) (by omega) (.int .u8 0) (.bool false) (.slice none 0 0) (.slice none 0 0))
 have R := (R.fars4 (w.heap.size) (by omega) (.int .u8 0) (.bool false) (.slice none 0 0) (.slice none 0 0))
 have P := (P.sets4 (w.heap.size) (by omega) (.int .u8 0) (.bool false) (.slice none 0 0) (.slice none 0 0))
 have X1 := (X1.sets4 (w.heap.size) (by omega) (.int .u8 0) (.bool false) (.slice none 0 0) (.slice none 0 0))
 refine hK.out _ _ ?_ (fun hS => ?_)
 · exact R.cells
 generalize ((((v2).setCell ⟨w.heap.size, 0, none⟩ (.int .u8 0)).setCell ⟨w.heap.size, 1, none⟩ (.bool false)).setCell ⟨w.heap.size, 2, none⟩ (.slice none 0 0)).setCell ⟨w.heap.size, 3, none⟩ (.slice none 0 0) = u12x at *
 clear hK K
 (try simp only [Act.put, qd, qe, qf])
 refine' wpAnyH_take (i := 10) (oi := ?oir24) (v := ?vr24) ?hir24 (by kernel_rfl) (by kernel_rfl) (by kernel_rfl) ?hQr24 ?hyr24 hS ?restr24
 case hir24 =>
  simp only [qa, qb, qc]
  exact rfl
 case hQr24 => exact fun _ _ _ h => h
 case hyr24 =>
  refine Or.inl ⟨by rfl, ?_⟩
  intro u hSw
  go_simp
  (try with_reducible rfl)
 (try simp only [Act.put, qd, qe, qf])
 refine' wpAnyH_take (i := 11) (oi := ?oir25) (v := ?vr25) ?hir25 (by kernel_rfl) (by kernel_rfl) (by kernel_rfl) ?hQr25 ?hyr25 hS ?restr25
 case hir25 =>
  simp only [qa, qb, qc]
  exact rfl
 case hQr25 => exact fun _ _ _ h => h
 case hyr25 =>
  refine Or.inl ⟨by rfl, ?_⟩
  intro u hSw
  go_simp
  (try with_reducible rfl)
 (try simp only [Act.put, qd, qe, qf])
 refine wpAnyH_done (by kernel_rfl) ?_ _
 clear hS
 have fr := Dr.f4
 have fn := Dn.f4
 have fR := R.f
 go_wp2
 refine bodyPost_ret (v := .tuple #[ndV nd0, .int .i64 (k1 : Int), .int .i64 2]) (by simp [results, Tryd.results10, go_sem, fr, nd0]; try rfl) rfl ?_
 exact ⟨kq_below P (by omega), nd0, _, _, rfl, rfl, rfl, by decide⟩
set_option maxHeartbeats 4000000 in
theorem rcompile_g (s : ByteArray) (l : List UInt8) (hud : s.data.toList = l) (hl : l.length ≤ 64) (w : World) (p : Rx.Pt) (j : Nat) (hj : ¬ j < l.length) (hT : Rx.choiceF (Rx.innerF l 9) l 0 = .ok p j) : Calls Tryd.prog 10 #[.string s] w (RCP w (.ok p 0)) := by
 have hsz : s.size = l.length := by rw [Lib.size_eq, hud]
 have d1 : decide ((64 : Int) < (s.size : Int)) = false := decide_eq_false (by omega)
 have d2 : decide (64 < s.size) = false := decide_eq_false (by omega)
 have d3 : decide ((64 : Int) < (l.length : Int)) = false := decide_eq_false (by omega)
 have d4 : decide (64 < l.length) = false := decide_eq_false (by omega)
 have HUD := Lib.hid hud
 have HC := fun b W h => rchoice_top b s l (0 : Int) (0 : Int) 0 W h
 rw [hT] at HC
 have HC := Lib.hid HC
 clear hT hud
 go_enter Tryd.func10, Tryd.ntmps10
 go_wp2_with fail
 have B := Below.refl w.heap.size w
 have Dr : At (((w).alloc (.cells #[.int .u8 0, .bool false, .slice none 0 0, .slice none 0 0] 30)).alloc (.cells #[.string s, .int .i64 0, .int .i64 0, .int .i64 0, .int .i64 0] 61)) (w.heap.size) [.int .u8 0, .bool false, .slice none 0 0, .slice none 0 0] := by have h := ((At.new (w) #[.int .u8 0, .bool false, .slice none 0 0, .slice none 0 0] 30).alloc (.cells #[.string s, .int .i64 0, .int .i64 0, .int .i64 0, .int .i64 0] 61)); simpa using h
 have Dp : At (((w).alloc (.cells #[.int .u8 0, .bool false, .slice none 0 0, .slice none 0 0] 30)).alloc (.cells #[.string s, .int .i64 0, .int .i64 0, .int .i64 0, .int .i64 0] 61)) (w.heap.size + 1) [.string s, .int .i64 0, .int .i64 0, .int .i64 0, .int .i64 0] := by have h := (At.new ((w).alloc (.cells #[.int .u8 0, .bool false, .slice none 0 0, .slice none 0 0] 30)) #[.string s, .int .i64 0, .int .i64 0, .int .i64 0, .int .i64 0] 61); simpa using h
 have B := (below_new (below_new B (.cells #[.int .u8 0, .bool false, .slice none 0 0, .slice none 0 0] 30)) (.cells #[.string s, .int .i64 0, .int .i64 0, .int .i64 0, .int .i64 0] 61))
 generalize ((w).alloc (.cells #[.int .u8 0, .bool false, .slice none 0 0, .slice none 0 0] 30)).alloc (.cells #[.string s, .int .i64 0, .int .i64 0, .int .i64 0, .int .i64 0] 61) = v0 at *
 obtain ⟨b, hb⟩ : ∃ b, b = w.heap.size + 1 := ⟨_, rfl⟩
 rw [← hb] at Dp ⊢
 have hrb : w.heap.size < b := by omega
 clear hb
 have R : Pa b s l 0 0 0 0 0 0 v0 := ⟨HUD.out, hl, Nat.zero_le _, rfl, rfl, Nat.zero_le _, Dp⟩
 have P : Kq b w v0 := ⟨B.os, B.tape, B.output, B.size, fun i hi _ => B.block i hi⟩
 have hwv := B.size
 have hrv := Dr.lt
 clear Dp
 have ltr := Dr.lt
 have ltR := R.cells.lt
 refine (HC.out b _ R).mono ?_
 rintro e w1 ⟨xn, z1, dz2, bad, pos, k1, rfl, R2, P2, hst⟩
 have Dr := Dr.kq P2 (by omega)
 have P := P.trans P2
 have P3 := P2
 have R := R2
 clear R2 P2
 have ltRX1 := ltR
 clear ltR
 have ltrX1 := ltr
 clear ltr
 have X1 := Kx.refl (v0.heap.size) w1
 have fr := Dr.f4
 have fR := R.f
 clear P3
 obtain ⟨xo, xb, sa, sl, sc, ka, kl, kc⟩ := xn
 obtain ⟨rfl, rfl, rfl, d, hnd⟩ := hst
 have HN := Lib.hid hnd
 clear hnd
 obtain rfl := R.hk
 have hq2 : decide ((k1 : Int) < (l.length : Int)) = false := decide_eq_false (by omega)
 have hq3 : decide (k1 < l.length) = false := decide_eq_false hj
 go_upto_region 5 with (fail)
 clear fr fR
 have ur1 := Dr.lt
 have uR1 := R.cells.lt
 have Dn : At ((w1).alloc (.cells #[.int .u8 xo, .bool xb, .slice sa sl sc, .slice ka kl kc] 30)) (w1.heap.size) [.int .u8 xo, .bool xb, .slice sa sl sc, .slice ka kl kc] := by have h := (At.new (w1) #[.int .u8 xo, .bool xb, .slice sa sl sc, .slice ka kl kc] 30); simpa using h
 have Dr := (Dr.alloc (.cells #[.int .u8 xo, .bool xb, .slice sa sl sc, .slice ka kl kc] 30))
 have R := (R.alloc (.cells #[.int .u8 xo, .bool xb, .slice sa sl sc, .slice ka kl kc] 30))
 have P := (P.alloc (.cells #[.int .u8 xo, .bool xb, .slice sa sl sc, .slice ka kl kc] 30))
 have X1le := X1.le
 have X1 := (X1.alloc (.cells #[.int .u8 xo, .bool xb, .slice sa sl sc, .slice ka kl kc] 30))
 generalize (w1).alloc (.cells #[.int .u8 xo, .bool xb, .slice sa sl sc, .slice ka kl kc] 30) = v2 at *
 have fr := Dr.f4
 have fn := Dn.f4
 have fR := R.f
 go_wp2
 clear fr fn fR
 have Dr := (Dr.puts4 (.int .u8 xo) (.bool xb) (.slice sa sl sc) (.slice ka kl kc))
 have Dn := (Dn.fars4 (w.heap.size) (by omega) (.int .u8 xo) (.bool xb) (.slice sa sl sc) (.slice ka kl kc))
 have R := (R.fars4 (w.heap.size) (by omega) (.int .u8 xo) (.bool xb) (.slice sa sl sc) (.slice ka kl kc))
 have P := (P.sets4 (w.heap.size) (by omega) (.int .u8 xo) (.bool xb) (.slice sa sl sc) (.slice ka kl kc))
 have X1 := (X1.sets4 (w.heap.size) (by omega) (.int .u8 xo) (.bool xb) (.slice sa sl sc) (.slice ka kl kc))
 generalize ((((v2).setCell ⟨w.heap.size, 0, none⟩ (.int .u8 xo)).setCell ⟨w.heap.size, 1, none⟩ (.bool xb)).setCell ⟨w.heap.size, 2, none⟩ (.slice sa sl sc)).setCell ⟨w.heap.size, 3, none⟩ (.slice ka kl kc) = v9 at *
 have fr := Dr.f4
 have fn := Dn.f4
 have fR := R.f
 refine bodyPost_ret (v := .tuple #[ndV ⟨xo, xb, sa, sl, sc, ka, kl, kc⟩, .int .i64 0, .int .i64 0]) (by simp [results, Tryd.results10, go_sem, fr]; try rfl) rfl ?_
 exact ⟨kq_below P (by omega), ⟨xo, xb, sa, sl, sc, ka, kl, kc⟩, _, _, rfl, rfl, rfl, d, HN.out.keep (fun g hg => ⟨Nat.le_trans hwv hg.1, Nat.lt_of_lt_of_le hg.2 X1.le⟩) (fun g hg => X1.same g hg.1 hg.2)⟩
theorem rcompile_any (s : ByteArray) (l : List UInt8) (hud : s.data.toList = l) (w : World) : Calls Tryd.prog 10 #[.string s] w (RCP w (Rx.compileF l)) := by
 have hsz : s.size = l.length := by rw [Lib.size_eq, hud]
 unfold Rx.compileF
 by_cases hl : 64 < l.length
 ·
  rw [if_pos hl]; exact rcompile_l s (by omega) w
 ·
  rw [if_neg hl]
  cases hT : Rx.choiceF (Rx.innerF l 9) l 0 with
  | bad er j => exact rcompile_b s l hud (by omega) w er j hT
  | ok p j =>
   dsimp only
   by_cases hj : j < l.length
   ·
    rw [if_pos hj]; exact rcompile_m s l hud (by omega) w p j hj hT
   ·
    rw [if_neg hj]; exact rcompile_g s l hud (by omega) w p j hj hT
end Go.Proofs.YtcfdpbbpdnpnnaaDoor
