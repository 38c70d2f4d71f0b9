/- The reference: choice, its rows by their contract. -/
import Derived.Test.YtjnbgbdfoknakaaGreatDoorRGroup
namespace Go.Proofs.YtjnbgbdfoknakaaGreatDoor
open Go Go.Proofs Go.RowKit Go.Shelf
set_option maxRecDepth 100000
attribute [local go_sem] cell_set ndV
def RRowOK (b : Nat) (s : ByteArray) (l : List UInt8) (dp : Nat) (inner : Nat → Rx.Res Rx.Pt) : Prop :=
 ∀ (z dz : Int) (k : Nat) (w : World), Pa b s l z dz 0 0 k dp w → Calls Tryz.prog 50 #[.pointer (some ⟨b, 0, none⟩)] w (NP b w s l dp (Rx.rowF inner l k))
def RChSt (inner : Nat → Rx.Res Rx.Pt) (l : List UInt8) (T : Rx.Res Rx.Pt) (k : Nat) (ps : List Rx.Pt) : Prop :=
 ps.length ≤ k ∧ ∃ f, l.length - k < f ∧ T = match Rx.rowF inner l k with | .bad e j => .bad e j | .ok p i => Rx.choiceL inner l f i (.alt (ps.foldl .alt .nil) p)
theorem fold_alt (ps : List Rx.Pt) (p : Rx.Pt) : (ps ++ [p]).foldl Rx.Pt.alt .nil = .alt (ps.foldl .alt .nil) p := by rw [List.foldl_append]; rfl
theorem ch_bad {inner : Nat → Rx.Res Rx.Pt} {l : List UInt8} {T : Rx.Res Rx.Pt} {k : Nat} {ps : List Rx.Pt} (h : RChSt inner l T k ps) {er j : Nat} (hr : Rx.rowF inner l k = .bad er j) : T = .bad er j := by
 obtain ⟨_, f, _, h⟩ := h
 rw [h, hr]
theorem ch_end {inner : Nat → Rx.Res Rx.Pt} {l : List UInt8} {T : Rx.Res Rx.Pt} {k : Nat} {ps : List Rx.Pt} (h : RChSt inner l T k ps) {p : Rx.Pt} {i : Nat} (hr : Rx.rowF inner l k = .ok p i) (h124 : Rx.pk l i ≠ 124) : T = .ok ((ps ++ [p]).foldl .alt .nil) i := by
 obtain ⟨_, f, hf, h⟩ := h
 obtain ⟨f, rfl⟩ : ∃ g, f = g + 1 := ⟨f - 1, by omega⟩
 rw [h, hr, fold_alt]; dsimp only; unfold Rx.choiceL; rw [if_neg h124]
theorem ch_more {inner : Nat → Rx.Res Rx.Pt} {l : List UInt8} {T : Rx.Res Rx.Pt} {k : Nat} {ps : List Rx.Pt} (h : RChSt inner l T k ps) {p : Rx.Pt} {i : Nat} (hr : Rx.rowF inner l k = .ok p i) (h124 : Rx.pk l i = 124) (hi : k < i) : RChSt inner l T (i + 1) (ps ++ [p]) := by
 obtain ⟨h0, f, hf, h⟩ := h
 obtain ⟨f, rfl⟩ : ∃ g, f = g + 1 := ⟨f - 1, by omega⟩
 have hlt := Rx.pk_lt (l := l) (k := i) (by omega)
 refine ⟨by rw [List.length_append]; simp; omega, f, by omega, ?_⟩
 rw [h, hr, fold_alt]; dsimp only; conv => lhs; unfold Rx.choiceL
 rw [if_pos h124]
 cases Rx.rowF inner l (i + 1) <;> rfl
theorem info_nodeR : (Tryz.prog.info? 55).map (fun i => (i.zero, i.size, i.bytes)) = some (some (.agg #[.int .u8 0, .bool false, .slice none 0 0, .slice none 0 0]), 4, 56) := by kernel_rfl
set_option maxHeartbeats 8000000 in
theorem rchoice_any (b : Nat) (s : ByteArray) (l : List UInt8) (dp : Nat) (inner : Nat → Rx.Res Rx.Pt) (hin : ∀ k, Rx.pk l k = 40 → Rx.Goes l k (inner k) (Rx.Few k)) (HR0 : RRowOK b s l dp inner) : RChoiceOK b s l dp inner := by
 intro z0 dz k w R
 obtain rfl := R.hk
 obtain ⟨i0, hi, hz0, hz1, hz2⟩ := info_parts info_nodeR
 have HI := Lib.hid hi
 have HZ := Lib.hid hz0
 have HZ1 := Lib.hid hz1
 have HZ2 := Lib.hid hz2
 clear hi hz0 hz1 hz2
 have hsz : s.size = l.length := by rw [Lib.size_eq, R.txt]
 have hl := R.ll
 have P := Kq.refl b w
 have hw0 := R.cells.lt
 obtain ⟨T, hT⟩ : ∃ T, Rx.choiceF inner l k = T := ⟨_, rfl⟩
 have hST : RChSt inner l T k [] := ⟨by simp, l.length + 1, by omega, by rw [← hT]; rfl⟩
 rw [hT]
 have HST := Lib.hid hST
 have HR0 := Lib.hid HR0
 have HIN := Lib.hid hin
 clear hT hST hin
 have fR := R.f
 go_enter Tryz.func37, Tryz.ntmps37
 go_wp2_with fail
 clear fR
 have uR0 := R.cells.lt
 have Dr : At (((w).alloc (.cells #[.int .u8 0, .bool false, .slice none 0 0, .slice none 0 0] 55)).alloc (.cells #[.int .u8 124, .bool false, .slice none 0 0, .slice none 0 0] 55)) (w.heap.size) [.int .u8 0, .bool false, .slice none 0 0, .slice none 0 0] := by have h := ((At.new (w) #[.int .u8 0, .bool false, .slice none 0 0, .slice none 0 0] 55).alloc (.cells #[.int .u8 124, .bool false, .slice none 0 0, .slice none 0 0] 55)); simpa using h
 have Dn : At (((w).alloc (.cells #[.int .u8 0, .bool false, .slice none 0 0, .slice none 0 0] 55)).alloc (.cells #[.int .u8 124, .bool false, .slice none 0 0, .slice none 0 0] 55)) (w.heap.size + 1) [.int .u8 124, .bool false, .slice none 0 0, .slice none 0 0] := by have h := (At.new ((w).alloc (.cells #[.int .u8 0, .bool false, .slice none 0 0, .slice none 0 0] 55)) #[.int .u8 124, .bool false, .slice none 0 0, .slice none 0 0] 55); simpa using h
 have R := ((R.alloc (.cells #[.int .u8 0, .bool false, .slice none 0 0, .slice none 0 0] 55)).alloc (.cells #[.int .u8 124, .bool false, .slice none 0 0, .slice none 0 0] 55))
 have P := ((P.alloc (.cells #[.int .u8 0, .bool false, .slice none 0 0, .slice none 0 0] 55)).alloc (.cells #[.int .u8 124, .bool false, .slice none 0 0, .slice none 0 0] 55))
 generalize ((w).alloc (.cells #[.int .u8 0, .bool false, .slice none 0 0, .slice none 0 0] 55)).alloc (.cells #[.int .u8 124, .bool false, .slice none 0 0, .slice none 0 0] 55) = v0 at *
 have hnr : w.heap.size < w.heap.size + 1 := Nat.lt_succ_self _
 obtain ⟨nb, hnb⟩ : ∃ nb, nb = w.heap.size + 1 := ⟨_, rfl⟩
 rw [← hnb] at Dn ⊢
 have hrn : w.heap.size < nb := by omega
 clear hnb hnr
 obtain ⟨bs, hbs⟩ : ∃ bs, bs = v0.heap.size := ⟨_, rfl⟩
 have hnbs : nb < bs := by have h := Dn.lt; omega
 have hbs2 : bs ≤ v0.heap.size := by omega
 clear hbs
 have O := Kidz.nil v0 bs
 go_loopw [4] (fun v4 wr => ∃ (ys : List Nd) (ps : List Rx.Pt) (ka : Option Addr) (n kc d : Nat) (z dz1 : Int) (k : Nat), RChSt inner l T k ps ∧ Pa b s l z dz1 0 0 k dp wr ∧ Kq b w wr ∧ Kidz bs wr ka n kc d ys ps ∧ At wr nb [.int .u8 124, .bool false, .slice none 0 0, .slice ka n kc] ∧ At wr w.heap.size [.int .u8 0, .bool false, .slice none 0 0, .slice none 0 0] ∧ bs ≤ wr.heap.size) (fun _ wr => paM l b wr)
 case atStart => exact ⟨[], [], none, 0, 0, 0, _, _, _, HST.out, R, P, O, Dn, Dr, hbs2⟩
 case round =>
  clear Dn Dr R P O HST
  obtain ⟨ys, ps, ka, n, kc, d, z, dz1, k0, hst, R, P, O, Dn, Dr, hble⟩ := hrel
  have hkl := R.kl
  obtain rfl := R.hk
  have hM : paM l b wr = l.length - k0 + 1 := by rw [paM_at R, if_pos rfl]
  have HST := Lib.hid hst
  have hn70 := O.hn
  have hnp : n ≤ k0 := by have h := O.len; have h2 := hst.1; omega
  clear hst hn70
  have hown0 : ∀ g, (Value.slice ka n kc).ownBlock = some g → g < wr.heap.size := fun g e => (O.lt g e).2
  have X0 : Kx (bs) (bs) wr wr := ⟨hble, fun _ _ _ => by omega⟩
  have fn := Dn.f4
  have fR := R.f
  go_wp2_with fail
  clear fn fR
  have ltr := Dr.lt
  have ltn := Dn.lt
  have ltR := R.cells.lt
  refine (HR0.out _ _ _ _ R).mono ?_
  rintro e w1 ⟨xn, z1, dz2, bad, pos, k1, rfl, R2, P2, hs1⟩
  have Dr := Dr.kq P2 (by omega)
  have Dn := Dn.kq P2 (by omega)
  have X0 := X0.kq P2 (by omega)
  have O := O.kq P2 (by omega)
  have P := P.trans P2
  have P3 := P2
  have R := R2
  clear R2 P2
  have ltRX1 := ltR
  clear ltR
  have ltrX1 := ltr
  have ltnX1 := ltn
  clear ltr
  clear ltn
  have X1 := Kx.refl (wr.heap.size) w1
  have fn := Dn.f4
  have fR := R.f
  have hwr := P3.size
  clear P3
  obtain ⟨xo, xb, sa, sl, sc, ka4, kl4, kc4⟩ := xn
  cases hS1 : Rx.rowF inner l k0 with
  | bad er j =>
   rw [hS1] at hs1
   obtain ⟨rfl, rfl, hne⟩ := hs1
   have hTb := ch_bad HST.out hS1
   have hne2 : ((er : Int) != 0) = true := by rw [bne_iff_ne]; omega
   clear hS1
   subst hTb
   go_upto_region 4 with (fail)
   clear fn fR
   have ur1 := Dr.lt
   have un1 := Dn.lt
   have uR1 := R.cells.lt
   have Dk4 := At.nw (w1) [.int .u8 xo, .bool xb, .slice sa sl sc, .slice ka4 kl4 kc4] 55
   obtain ⟨Dr, Dn, R, P, O⟩ := (fun o => And.intro (Dr.alloc o) (And.intro (Dn.alloc o) (And.intro (R.alloc o) (And.intro (P.alloc o) (O.alloc o))))) (.cells #[.int .u8 xo, .bool xb, .slice sa sl sc, .slice ka4 kl4 kc4] 55)
   have X0le := X0.le
   have X0 := (X0.alloc (.cells #[.int .u8 xo, .bool xb, .slice sa sl sc, .slice ka4 kl4 kc4] 55))
   have X1le := X1.le
   have X1 := (X1.alloc (.cells #[.int .u8 xo, .bool xb, .slice sa sl sc, .slice ka4 kl4 kc4] 55))
   generalize (w1).alloc (.cells #[.int .u8 xo, .bool xb, .slice sa sl sc, .slice ka4 kl4 kc4] 55) = qa at *
   have fn := Dn.f4
   have fk4 := Dk4.f4
   have fR := R.f
   go_wp2_with (at_builtin; refine wpList_append_own_at _ rfl _ _ 53 rfl bs 55 i0 (.agg #[.int .u8 0, .bool false, .slice none 0 0, .slice none 0 0]) 4 56 Tryz.underlying53 HI.out HZ.out HZ1.out HZ2.out rfl (by decide) _ _ _ rfl (O.own.alloc _) ⟨qa.heap.size, 0, none⟩ 1 1 [.int .u8 xo, .bool xb, .slice sa sl sc, .slice ka4 kl4 kc4] rfl rfl (cells4_new _ _ _ _ _ _) ?j1a ?j2a ?j3a ?j4a ?_)
   case j1a => first | (intro u hu; simp at hu; rcases hu with rfl | rfl | rfl | rfl <;> rfl) | exact ⟨rfl, rfl, rfl, rfl⟩
   case j2a => have h1 := O.few; unfold maxLen; omega
   case j3a => have h1 := O.few; omega
   case j4a => (try simp); have h1 := X0.le; omega
   intro v' w1a hown hgrow _ hor
   obtain ⟨ga, ca, rfl, hgaa, hgba⟩ := hown.form (by omega)
   clear fn fk4 fR
   have Dr := grown_at hgrow (Dr.alloc (.cells #[.int .u8 xo, .bool xb, .slice sa sl sc, .slice ka4 kl4 kc4] 55)) (fun e2 => by have h1 := (O.lt _ e2).1; have h2 := hown0 _ e2; omega)
   have Dn := grown_at hgrow (Dn.alloc (.cells #[.int .u8 xo, .bool xb, .slice sa sl sc, .slice ka4 kl4 kc4] 55)) (fun e2 => by have h1 := (O.lt _ e2).1; have h2 := hown0 _ e2; omega)
   have Dk4 := grown_at hgrow (Dk4.alloc (.cells #[.int .u8 xo, .bool xb, .slice sa sl sc, .slice ka4 kl4 kc4] 55)) (fun e2 => by have h1 := (O.lt _ e2).1; have h2 := hown0 _ e2; omega)
   have X0 := (X0.alloc (.cells #[.int .u8 xo, .bool xb, .slice sa sl sc, .slice ka4 kl4 kc4] 55)).grown hgrow (fun g e2 => by have h1 := O.lt _ e2; have h2 := hown0 _ e2; omega)
   have X1 := (X1.alloc (.cells #[.int .u8 xo, .bool xb, .slice sa sl sc, .slice ka4 kl4 kc4] 55)).grown hgrow (fun g e2 => by have h1 := O.lt _ e2; have h2 := hown0 _ e2; omega)
   have R := (R.alloc (.cells #[.int .u8 xo, .bool xb, .slice sa sl sc, .slice ka4 kl4 kc4] 55)).grown hgrow (fun e2 => by have h1 := (O.lt _ e2).1; omega)
   have P := (P.alloc (.cells #[.int .u8 xo, .bool xb, .slice sa sl sc, .slice ka4 kl4 kc4] 55)).grown hgrow (fun g e2 => by have h1 := (O.lt _ e2).1; omega)
   clear hown hgrow hor
   have fn := Dn.f4
   have fk4 := Dk4.f4
   have fR := R.f
   go_wp2_with fail
   clear fn fk4 fR
   have Dr := (Dr.far (b' := nb) (j := 3) (by omega) (.slice (some ⟨ga, 0, none⟩) (n + 1) ca))
   have Dn : At ((w1a).setCell ⟨nb, 3, none⟩ (.slice (some ⟨ga, 0, none⟩) (n + 1) ca)) (nb) [.int .u8 124, .bool false, .slice none 0 0, .slice (some ⟨ga, 0, none⟩) (n + 1) ca] := (Dn.set 3 (.slice (some ⟨ga, 0, none⟩) (n + 1) ca))
   obtain ⟨R, P, O, X0, X1⟩ := (fun o => And.intro (R.far (c := nb) 3 (by omega) o) (And.intro (P.setCell (p := ⟨nb, 3, none⟩) (.inl (by dsimp only; omega)) o) (And.intro (O.setCell (p := ⟨nb, 3, none⟩) (by dsimp only; omega) o) (And.intro (X0.setCell (p := ⟨nb, 3, none⟩) (by dsimp only; omega) o) (X1.setCell (p := ⟨nb, 3, none⟩) (by dsimp only; omega) o))))) (.slice (some ⟨ga, 0, none⟩) (n + 1) ca)
   generalize (w1a).setCell ⟨nb, 3, none⟩ (.slice (some ⟨ga, 0, none⟩) (n + 1) ca) = ya at *
   have fn := Dn.f4
   have fR := R.f
   go_quiet (fail)
   clear fn fR
   have Dr := (Dr.drewN nq)
   have Dn := (Dn.drewN nq)
   have R := (R.drewN nq)
   have P := (P.drewN nq)
   have O := (O.drewN nq)
   have X0 := (X0.drewN nq)
   have X1 := (X1.drewN nq)
   generalize (ya).drewN nq = za at *
   have fr := Dr.f4
   have fn := Dn.f4
   have fR := R.f
   go_upto_region 6 with (fail)
   repeat go_step
   clear fr fn fR
   obtain ⟨Dr, Dn, R, P, O, X0, X1⟩ := (fun o0 o1 o2 o3 => And.intro (Dr.puts4 o0 o1 o2 o3) (And.intro (Dn.fars4 (w.heap.size) (by omega) o0 o1 o2 o3) (And.intro (R.fars4 (w.heap.size) (by omega) o0 o1 o2 o3) (And.intro (P.sets4 (w.heap.size) (by omega) o0 o1 o2 o3) (And.intro (O.sets4 (w.heap.size) (by omega) o0 o1 o2 o3) (And.intro (X0.sets4 (w.heap.size) (by omega) o0 o1 o2 o3) (X1.sets4 (w.heap.size) (by omega) o0 o1 o2 o3))))))) (.int .u8 124) (.bool false) (.slice none 0 0) (.slice (some ⟨ga, 0, none⟩) (n + 1) ca)
   generalize ((((za).setCell ⟨w.heap.size, 0, none⟩ (.int .u8 124)).setCell ⟨w.heap.size, 1, none⟩ (.bool false)).setCell ⟨w.heap.size, 2, none⟩ (.slice none 0 0)).setCell ⟨w.heap.size, 3, none⟩ (.slice (some ⟨ga, 0, none⟩) (n + 1) ca) = fa at *
   have fr := Dr.f4
   have fn := Dn.f4
   have fR := R.f
   refine bodyPost_ret (v := ndV ⟨124, false, none, 0, 0, some ⟨ga, 0, none⟩, n + 1, ca⟩) (by simp [results, Tryz.results37, go_sem, fr]; try rfl) rfl ?_
   exact ⟨⟨124, false, none, 0, 0, some ⟨ga, 0, none⟩, n + 1, ca⟩, _, _, _, _, _, rfl, R, P, rfl, rfl, hne⟩
  | ok p i =>
   have hgo := Rx.row_goes HIN.out hkl
   rw [hS1] at hs1 hgo
   obtain ⟨rfl, rfl, rfl, d2, hnd⟩ := hs1
   obtain ⟨hg1, hg2, -⟩ := hgo
   obtain rfl := R.hk
   have HN := Lib.hid hnd
   have HS1 := Lib.hid hS1
   clear hS1 hnd
   by_cases hq : k1 < l.length
   ·
    by_cases h124 : Rx.pk l k1 = 124
    ·
     have hx := pk_byteAt R.txt k1 (by omega)
     rw [h124] at hx
     have hql : (k1 : Int) < (l.length : Int) := by omega
     have hqn : ¬ ((l.length : Int) ≤ (k1 : Int)) := by omega
     have hqm : (0 : Int) ≤ (k1 : Int) := by omega
     have H124 := Lib.hid h124
     clear h124
     have dq : decide ((l.length : Int) ≤ (k1 : Int)) = false := decide_eq_false hqn
     go_upto_region 4 with (fail)
     clear fn fR
     have ur1 := Dr.lt
     have un1 := Dn.lt
     have uR1 := R.cells.lt
     have Dk4 := At.nw (w1) [.int .u8 xo, .bool xb, .slice sa sl sc, .slice ka4 kl4 kc4] 55
     obtain ⟨Dr, Dn, R, P, O⟩ := (fun o => And.intro (Dr.alloc o) (And.intro (Dn.alloc o) (And.intro (R.alloc o) (And.intro (P.alloc o) (O.alloc o))))) (.cells #[.int .u8 xo, .bool xb, .slice sa sl sc, .slice ka4 kl4 kc4] 55)
     have X0le := X0.le
     have X0 := (X0.alloc (.cells #[.int .u8 xo, .bool xb, .slice sa sl sc, .slice ka4 kl4 kc4] 55))
     have X1le := X1.le
     have X1 := (X1.alloc (.cells #[.int .u8 xo, .bool xb, .slice sa sl sc, .slice ka4 kl4 kc4] 55))
     generalize (w1).alloc (.cells #[.int .u8 xo, .bool xb, .slice sa sl sc, .slice ka4 kl4 kc4] 55) = qb at *
     have fn := Dn.f4
     have fk4 := Dk4.f4
     have fR := R.f
     go_wp2_with (at_builtin; refine wpList_append_own_at _ rfl _ _ 53 rfl bs 55 i0 (.agg #[.int .u8 0, .bool false, .slice none 0 0, .slice none 0 0]) 4 56 Tryz.underlying53 HI.out HZ.out HZ1.out HZ2.out rfl (by decide) _ _ _ rfl (O.own.alloc _) ⟨qb.heap.size, 0, none⟩ 1 1 [.int .u8 xo, .bool xb, .slice sa sl sc, .slice ka4 kl4 kc4] rfl rfl (cells4_new _ _ _ _ _ _) ?j1b ?j2b ?j3b ?j4b ?_)
     case j1b => first | (intro u hu; simp at hu; rcases hu with rfl | rfl | rfl | rfl <;> rfl) | exact ⟨rfl, rfl, rfl, rfl⟩
     case j2b => have h1 := O.few; unfold maxLen; omega
     case j3b => have h1 := O.few; omega
     case j4b => (try simp); have h1 := X0.le; omega
     intro v' w1b hown hgrow _ hor
     obtain ⟨ga, ca, rfl, hgab, hgbb⟩ := hown.form (by omega)
     clear fn fk4 fR
     have hy := HN.out.keep (S' := fun x => bs ≤ x ∧ x < (qb.alloc (.cells #[.int .u8 xo, .bool xb, .slice sa sl sc, .slice ka4 kl4 kc4] 55)).heap.size ∧ (Value.slice ka n kc).ownBlock ≠ some x) (w' := qb.alloc (.cells #[.int .u8 xo, .bool xb, .slice sa sl sc, .slice ka4 kl4 kc4] 55)) (fun g hg => ⟨Nat.le_trans hble hg.1, Nat.lt_of_lt_of_le hg.2 (X1.alloc (.cells #[.int .u8 xo, .bool xb, .slice sa sl sc, .slice ka4 kl4 kc4] 55)).le, fun e2 => by have h1 := hown0 g e2; have h2 := hg.1; omega⟩) (fun g hg => (X1.alloc (.cells #[.int .u8 xo, .bool xb, .slice sa sl sc, .slice ka4 kl4 kc4] 55)).same g hg.1 hg.2)
     have Dr := grown_at hgrow (Dr.alloc (.cells #[.int .u8 xo, .bool xb, .slice sa sl sc, .slice ka4 kl4 kc4] 55)) (fun e2 => by have h1 := (O.lt _ e2).1; have h2 := hown0 _ e2; omega)
     have Dn := grown_at hgrow (Dn.alloc (.cells #[.int .u8 xo, .bool xb, .slice sa sl sc, .slice ka4 kl4 kc4] 55)) (fun e2 => by have h1 := (O.lt _ e2).1; have h2 := hown0 _ e2; omega)
     have Dk4 := grown_at hgrow (Dk4.alloc (.cells #[.int .u8 xo, .bool xb, .slice sa sl sc, .slice ka4 kl4 kc4] 55)) (fun e2 => by have h1 := (O.lt _ e2).1; have h2 := hown0 _ e2; omega)
     have X0 := (X0.alloc (.cells #[.int .u8 xo, .bool xb, .slice sa sl sc, .slice ka4 kl4 kc4] 55)).grown hgrow (fun g e2 => by have h1 := O.lt _ e2; have h2 := hown0 _ e2; omega)
     have X1 := (X1.alloc (.cells #[.int .u8 xo, .bool xb, .slice sa sl sc, .slice ka4 kl4 kc4] 55)).grown hgrow (fun g e2 => by have h1 := O.lt _ e2; have h2 := hown0 _ e2; omega)
     have R := (R.alloc (.cells #[.int .u8 xo, .bool xb, .slice sa sl sc, .slice ka4 kl4 kc4] 55)).grown hgrow (fun e2 => by have h1 := (O.lt _ e2).1; omega)
     have P := (P.alloc (.cells #[.int .u8 xo, .bool xb, .slice sa sl sc, .slice ka4 kl4 kc4] 55)).grown hgrow (fun g e2 => by have h1 := (O.lt _ e2).1; omega)
     have O := (O.alloc (.cells #[.int .u8 xo, .bool xb, .slice sa sl sc, .slice ka4 kl4 kc4] 55)).snoc (y := ⟨xo, xb, sa, sl, sc, ka4, kl4, kc4⟩) hown hgrow (hor.imp id (fun e => ⟨_, e, by simp⟩)) hy (by omega)
     clear hown hgrow hor
     have fn := Dn.f4
     have fk4 := Dk4.f4
     have fR := R.f
     go_wp2_with fail
     clear fn fk4 fR
     have Dr := (Dr.far (b' := nb) (j := 3) (by omega) (.slice (some ⟨ga, 0, none⟩) (n + 1) ca))
     have Dn : At ((w1b).setCell ⟨nb, 3, none⟩ (.slice (some ⟨ga, 0, none⟩) (n + 1) ca)) (nb) [.int .u8 124, .bool false, .slice none 0 0, .slice (some ⟨ga, 0, none⟩) (n + 1) ca] := (Dn.set 3 (.slice (some ⟨ga, 0, none⟩) (n + 1) ca))
     obtain ⟨R, P, O, X0, X1⟩ := (fun o => And.intro (R.far (c := nb) 3 (by omega) o) (And.intro (P.setCell (p := ⟨nb, 3, none⟩) (.inl (by dsimp only; omega)) o) (And.intro (O.setCell (p := ⟨nb, 3, none⟩) (by dsimp only; omega) o) (And.intro (X0.setCell (p := ⟨nb, 3, none⟩) (by dsimp only; omega) o) (X1.setCell (p := ⟨nb, 3, none⟩) (by dsimp only; omega) o))))) (.slice (some ⟨ga, 0, none⟩) (n + 1) ca)
     generalize (w1b).setCell ⟨nb, 3, none⟩ (.slice (some ⟨ga, 0, none⟩) (n + 1) ca) = yb at *
     have fn := Dn.f4
     have fR := R.f
     go_quiet (fail)
     clear fn fR
     have Dr := (Dr.drewN nq)
     have Dn := (Dn.drewN nq)
     have R := (R.drewN nq)
     have P := (P.drewN nq)
     have O := (O.drewN nq)
     have X0 := (X0.drewN nq)
     have X1 := (X1.drewN nq)
     generalize (yb).drewN nq = zb at *
     have fn := Dn.f4
     have fR := R.f
     go_wp2
     clear fn fR
     have Dr := (Dr.far (b' := b) (j := 1) (by omega) (.int .i64 ((k1 : Int) + 1)))
     have Dn := (Dn.far (b' := b) (j := 1) (by omega) (.int .i64 ((k1 : Int) + 1)))
     have R := (R.move (z' := (k1 : Int) + 1) (k' := k1 + 1) (by omega) (by omega))
     obtain ⟨P, O, X0, X1⟩ := (fun o => And.intro (P.setCell (p := ⟨b, 1, none⟩) (.inr rfl) o) (And.intro (O.setCell (p := ⟨b, 1, none⟩) (by dsimp only; omega) o) (And.intro (X0.setCell (p := ⟨b, 1, none⟩) (by dsimp only; omega) o) (X1.setCell (p := ⟨b, 1, none⟩) (by dsimp only; omega) o)))) (.int .i64 ((k1 : Int) + 1))
     generalize (zb).setCell ⟨b, 1, none⟩ (.int .i64 ((k1 : Int) + 1)) = wb at *
     have hM2 : paM l b wb = l.length - (k1 + 1) + 1 := by rw [paM_at R, if_pos rfl]
     have hst2 := ch_more HST.out HS1.out H124.out hg1
     go_roundw
     case rel => exact ⟨_, _, _, _, _, _, _, _, _, hst2, R, P, O, Dn, Dr, X0.le⟩
     case measure => rw [hM, hM2]; omega
    ·
     have hx := pk_byteAt R.txt k1 (by omega)
     obtain ⟨x, hxx⟩ : ∃ x, Rx.pk l k1 = x := ⟨_, rfl⟩
     rw [hxx] at hx
     have hql : (k1 : Int) < (l.length : Int) := by omega
     have hqn : ¬ ((l.length : Int) ≤ (k1 : Int)) := by omega
     have hqm : (0 : Int) ≤ (k1 : Int) := by omega
     have dx : ((x : Int) != 124) = true := by rw [bne_iff_ne]; omega
     have dq : decide ((l.length : Int) ≤ (k1 : Int)) = false := decide_eq_false hqn
     have H124 := Lib.hid h124
     clear hxx h124
     go_upto_region 4 with (fail)
     clear fn fR
     have ur1 := Dr.lt
     have un1 := Dn.lt
     have uR1 := R.cells.lt
     have Dk4 := At.nw (w1) [.int .u8 xo, .bool xb, .slice sa sl sc, .slice ka4 kl4 kc4] 55
     obtain ⟨Dr, Dn, R, P, O⟩ := (fun o => And.intro (Dr.alloc o) (And.intro (Dn.alloc o) (And.intro (R.alloc o) (And.intro (P.alloc o) (O.alloc o))))) (.cells #[.int .u8 xo, .bool xb, .slice sa sl sc, .slice ka4 kl4 kc4] 55)
     have X0le := X0.le
     have X0 := (X0.alloc (.cells #[.int .u8 xo, .bool xb, .slice sa sl sc, .slice ka4 kl4 kc4] 55))
     have X1le := X1.le
     have X1 := (X1.alloc (.cells #[.int .u8 xo, .bool xb, .slice sa sl sc, .slice ka4 kl4 kc4] 55))
     generalize (w1).alloc (.cells #[.int .u8 xo, .bool xb, .slice sa sl sc, .slice ka4 kl4 kc4] 55) = qc at *
     have fn := Dn.f4
     have fk4 := Dk4.f4
     have fR := R.f
     go_wp2_with (at_builtin; refine wpList_append_own_at _ rfl _ _ 53 rfl bs 55 i0 (.agg #[.int .u8 0, .bool false, .slice none 0 0, .slice none 0 0]) 4 56 Tryz.underlying53 HI.out HZ.out HZ1.out HZ2.out rfl (by decide) _ _ _ rfl (O.own.alloc _) ⟨qc.heap.size, 0, none⟩ 1 1 [.int .u8 xo, .bool xb, .slice sa sl sc, .slice ka4 kl4 kc4] rfl rfl (cells4_new _ _ _ _ _ _) ?j1c ?j2c ?j3c ?j4c ?_)
     case j1c => first | (intro u hu; simp at hu; rcases hu with rfl | rfl | rfl | rfl <;> rfl) | exact ⟨rfl, rfl, rfl, rfl⟩
     case j2c => have h1 := O.few; unfold maxLen; omega
     case j3c => have h1 := O.few; omega
     case j4c => (try simp); have h1 := X0.le; omega
     intro v' w1c hown hgrow _ hor
     obtain ⟨ga, ca, rfl, hgac, hgbc⟩ := hown.form (by omega)
     clear fn fk4 fR
     have hy := HN.out.keep (S' := fun x => bs ≤ x ∧ x < (qc.alloc (.cells #[.int .u8 xo, .bool xb, .slice sa sl sc, .slice ka4 kl4 kc4] 55)).heap.size ∧ (Value.slice ka n kc).ownBlock ≠ some x) (w' := qc.alloc (.cells #[.int .u8 xo, .bool xb, .slice sa sl sc, .slice ka4 kl4 kc4] 55)) (fun g hg => ⟨Nat.le_trans hble hg.1, Nat.lt_of_lt_of_le hg.2 (X1.alloc (.cells #[.int .u8 xo, .bool xb, .slice sa sl sc, .slice ka4 kl4 kc4] 55)).le, fun e2 => by have h1 := hown0 g e2; have h2 := hg.1; omega⟩) (fun g hg => (X1.alloc (.cells #[.int .u8 xo, .bool xb, .slice sa sl sc, .slice ka4 kl4 kc4] 55)).same g hg.1 hg.2)
     have Dr := grown_at hgrow (Dr.alloc (.cells #[.int .u8 xo, .bool xb, .slice sa sl sc, .slice ka4 kl4 kc4] 55)) (fun e2 => by have h1 := (O.lt _ e2).1; have h2 := hown0 _ e2; omega)
     have Dn := grown_at hgrow (Dn.alloc (.cells #[.int .u8 xo, .bool xb, .slice sa sl sc, .slice ka4 kl4 kc4] 55)) (fun e2 => by have h1 := (O.lt _ e2).1; have h2 := hown0 _ e2; omega)
     have Dk4 := grown_at hgrow (Dk4.alloc (.cells #[.int .u8 xo, .bool xb, .slice sa sl sc, .slice ka4 kl4 kc4] 55)) (fun e2 => by have h1 := (O.lt _ e2).1; have h2 := hown0 _ e2; omega)
     have X0 := (X0.alloc (.cells #[.int .u8 xo, .bool xb, .slice sa sl sc, .slice ka4 kl4 kc4] 55)).grown hgrow (fun g e2 => by have h1 := O.lt _ e2; have h2 := hown0 _ e2; omega)
     have X1 := (X1.alloc (.cells #[.int .u8 xo, .bool xb, .slice sa sl sc, .slice ka4 kl4 kc4] 55)).grown hgrow (fun g e2 => by have h1 := O.lt _ e2; have h2 := hown0 _ e2; omega)
     have R := (R.alloc (.cells #[.int .u8 xo, .bool xb, .slice sa sl sc, .slice ka4 kl4 kc4] 55)).grown hgrow (fun e2 => by have h1 := (O.lt _ e2).1; omega)
     have P := (P.alloc (.cells #[.int .u8 xo, .bool xb, .slice sa sl sc, .slice ka4 kl4 kc4] 55)).grown hgrow (fun g e2 => by have h1 := (O.lt _ e2).1; omega)
     have O := (O.alloc (.cells #[.int .u8 xo, .bool xb, .slice sa sl sc, .slice ka4 kl4 kc4] 55)).snoc (y := ⟨xo, xb, sa, sl, sc, ka4, kl4, kc4⟩) hown hgrow (hor.imp id (fun e => ⟨_, e, by simp⟩)) hy (by omega)
     clear hown hgrow hor
     have fn := Dn.f4
     have fk4 := Dk4.f4
     have fR := R.f
     go_wp2_with fail
     clear fn fk4 fR
     have Dr := (Dr.far (b' := nb) (j := 3) (by omega) (.slice (some ⟨ga, 0, none⟩) (n + 1) ca))
     have Dn : At ((w1c).setCell ⟨nb, 3, none⟩ (.slice (some ⟨ga, 0, none⟩) (n + 1) ca)) (nb) [.int .u8 124, .bool false, .slice none 0 0, .slice (some ⟨ga, 0, none⟩) (n + 1) ca] := (Dn.set 3 (.slice (some ⟨ga, 0, none⟩) (n + 1) ca))
     obtain ⟨R, P, O, X0, X1⟩ := (fun o => And.intro (R.far (c := nb) 3 (by omega) o) (And.intro (P.setCell (p := ⟨nb, 3, none⟩) (.inl (by dsimp only; omega)) o) (And.intro (O.setCell (p := ⟨nb, 3, none⟩) (by dsimp only; omega) o) (And.intro (X0.setCell (p := ⟨nb, 3, none⟩) (by dsimp only; omega) o) (X1.setCell (p := ⟨nb, 3, none⟩) (by dsimp only; omega) o))))) (.slice (some ⟨ga, 0, none⟩) (n + 1) ca)
     generalize (w1c).setCell ⟨nb, 3, none⟩ (.slice (some ⟨ga, 0, none⟩) (n + 1) ca) = yc at *
     have fn := Dn.f4
     have fR := R.f
     go_quiet (fail)
     clear fn fR
     have Dr := (Dr.drewN nq)
     have Dn := (Dn.drewN nq)
     have R := (R.drewN nq)
     have P := (P.drewN nq)
     have O := (O.drewN nq)
     have X0 := (X0.drewN nq)
     have X1 := (X1.drewN nq)
     generalize (yc).drewN nq = zc at *
     have fr := Dr.f4
     have fn := Dn.f4
     have fR := R.f
     go_upto_region 6 with (fail)
     repeat go_step
     clear fr fn fR
     obtain ⟨Dr, Dn, R, P, O, X0, X1⟩ := (fun o0 o1 o2 o3 => And.intro (Dr.puts4 o0 o1 o2 o3) (And.intro (Dn.fars4 (w.heap.size) (by omega) o0 o1 o2 o3) (And.intro (R.fars4 (w.heap.size) (by omega) o0 o1 o2 o3) (And.intro (P.sets4 (w.heap.size) (by omega) o0 o1 o2 o3) (And.intro (O.sets4 (w.heap.size) (by omega) o0 o1 o2 o3) (And.intro (X0.sets4 (w.heap.size) (by omega) o0 o1 o2 o3) (X1.sets4 (w.heap.size) (by omega) o0 o1 o2 o3))))))) (.int .u8 124) (.bool false) (.slice none 0 0) (.slice (some ⟨ga, 0, none⟩) (n + 1) ca)
     generalize ((((zc).setCell ⟨w.heap.size, 0, none⟩ (.int .u8 124)).setCell ⟨w.heap.size, 1, none⟩ (.bool false)).setCell ⟨w.heap.size, 2, none⟩ (.slice none 0 0)).setCell ⟨w.heap.size, 3, none⟩ (.slice (some ⟨ga, 0, none⟩) (n + 1) ca) = fc at *
     have fr := Dr.f4
     have fn := Dn.f4
     have fR := R.f
     refine bodyPost_ret (v := ndV ⟨124, false, none, 0, 0, some ⟨ga, 0, none⟩, n + 1, ca⟩) (by simp [results, Tryz.results37, go_sem, fr]; try rfl) rfl ?_
     have hTe := ch_end HST.out HS1.out (H124.out)
     have hnode := O.node (by omega) (by omega) (S := Rng w fc) (fun x hx => ⟨by have := hx.1; omega, hx.2⟩) (o := 124) (p := (ps ++ [p]).foldl .alt .nil) (Or.inl ⟨rfl, rfl⟩)
     rw [hTe]
     exact ⟨⟨124, false, none, 0, 0, some ⟨ga, 0, none⟩, n + 1, ca⟩, _, _, _, _, _, rfl, R, P, rfl, rfl, rfl, _, hnode⟩
   ·
    have hz0 := Rx.pk_end (l := l) (k := k1) (by omega)
    have H124 := Lib.hid (show Rx.pk l k1 ≠ 124 by omega)
    clear hz0
    have dq : decide ((l.length : Int) ≤ (k1 : Int)) = true := decide_eq_true (by omega)
    have hql : (l.length : Int) ≤ (k1 : Int) := by omega
    go_upto_region 4 with (fail)
    clear fn fR
    have ur1 := Dr.lt
    have un1 := Dn.lt
    have uR1 := R.cells.lt
    have Dk4 := At.nw (w1) [.int .u8 xo, .bool xb, .slice sa sl sc, .slice ka4 kl4 kc4] 55
    obtain ⟨Dr, Dn, R, P, O⟩ := (fun o => And.intro (Dr.alloc o) (And.intro (Dn.alloc o) (And.intro (R.alloc o) (And.intro (P.alloc o) (O.alloc o))))) (.cells #[.int .u8 xo, .bool xb, .slice sa sl sc, .slice ka4 kl4 kc4] 55)
    have X0le := X0.le
    have X0 := (X0.alloc (.cells #[.int .u8 xo, .bool xb, .slice sa sl sc, .slice ka4 kl4 kc4] 55))
    have X1le := X1.le
    have X1 := (X1.alloc (.cells #[.int .u8 xo, .bool xb, .slice sa sl sc, .slice ka4 kl4 kc4] 55))
    generalize (w1).alloc (.cells #[.int .u8 xo, .bool xb, .slice sa sl sc, .slice ka4 kl4 kc4] 55) = qd at *
    have fn := Dn.f4
    have fk4 := Dk4.f4
    have fR := R.f
    go_wp2_with (at_builtin; refine wpList_append_own_at _ rfl _ _ 53 rfl bs 55 i0 (.agg #[.int .u8 0, .bool false, .slice none 0 0, .slice none 0 0]) 4 56 Tryz.underlying53 HI.out HZ.out HZ1.out HZ2.out rfl (by decide) _ _ _ rfl (O.own.alloc _) ⟨qd.heap.size, 0, none⟩ 1 1 [.int .u8 xo, .bool xb, .slice sa sl sc, .slice ka4 kl4 kc4] rfl rfl (cells4_new _ _ _ _ _ _) ?j1d ?j2d ?j3d ?j4d ?_)
    case j1d => first | (intro u hu; simp at hu; rcases hu with rfl | rfl | rfl | rfl <;> rfl) | exact ⟨rfl, rfl, rfl, rfl⟩
    case j2d => have h1 := O.few; unfold maxLen; omega
    case j3d => have h1 := O.few; omega
    case j4d => (try simp); have h1 := X0.le; omega
    intro v' w1d hown hgrow _ hor
    obtain ⟨ga, ca, rfl, hgad, hgbd⟩ := hown.form (by omega)
    clear fn fk4 fR
    have hy := HN.out.keep (S' := fun x => bs ≤ x ∧ x < (qd.alloc (.cells #[.int .u8 xo, .bool xb, .slice sa sl sc, .slice ka4 kl4 kc4] 55)).heap.size ∧ (Value.slice ka n kc).ownBlock ≠ some x) (w' := qd.alloc (.cells #[.int .u8 xo, .bool xb, .slice sa sl sc, .slice ka4 kl4 kc4] 55)) (fun g hg => ⟨Nat.le_trans hble hg.1, Nat.lt_of_lt_of_le hg.2 (X1.alloc (.cells #[.int .u8 xo, .bool xb, .slice sa sl sc, .slice ka4 kl4 kc4] 55)).le, fun e2 => by have h1 := hown0 g e2; have h2 := hg.1; omega⟩) (fun g hg => (X1.alloc (.cells #[.int .u8 xo, .bool xb, .slice sa sl sc, .slice ka4 kl4 kc4] 55)).same g hg.1 hg.2)
    have Dr := grown_at hgrow (Dr.alloc (.cells #[.int .u8 xo, .bool xb, .slice sa sl sc, .slice ka4 kl4 kc4] 55)) (fun e2 => by have h1 := (O.lt _ e2).1; have h2 := hown0 _ e2; omega)
    have Dn := grown_at hgrow (Dn.alloc (.cells #[.int .u8 xo, .bool xb, .slice sa sl sc, .slice ka4 kl4 kc4] 55)) (fun e2 => by have h1 := (O.lt _ e2).1; have h2 := hown0 _ e2; omega)
    have Dk4 := grown_at hgrow (Dk4.alloc (.cells #[.int .u8 xo, .bool xb, .slice sa sl sc, .slice ka4 kl4 kc4] 55)) (fun e2 => by have h1 := (O.lt _ e2).1; have h2 := hown0 _ e2; omega)
    have X0 := (X0.alloc (.cells #[.int .u8 xo, .bool xb, .slice sa sl sc, .slice ka4 kl4 kc4] 55)).grown hgrow (fun g e2 => by have h1 := O.lt _ e2; have h2 := hown0 _ e2; omega)
    have X1 := (X1.alloc (.cells #[.int .u8 xo, .bool xb, .slice sa sl sc, .slice ka4 kl4 kc4] 55)).grown hgrow (fun g e2 => by have h1 := O.lt _ e2; have h2 := hown0 _ e2; omega)
    have R := (R.alloc (.cells #[.int .u8 xo, .bool xb, .slice sa sl sc, .slice ka4 kl4 kc4] 55)).grown hgrow (fun e2 => by have h1 := (O.lt _ e2).1; omega)
    have P := (P.alloc (.cells #[.int .u8 xo, .bool xb, .slice sa sl sc, .slice ka4 kl4 kc4] 55)).grown hgrow (fun g e2 => by have h1 := (O.lt _ e2).1; omega)
    have O := (O.alloc (.cells #[.int .u8 xo, .bool xb, .slice sa sl sc, .slice ka4 kl4 kc4] 55)).snoc (y := ⟨xo, xb, sa, sl, sc, ka4, kl4, kc4⟩) hown hgrow (hor.imp id (fun e => ⟨_, e, by simp⟩)) hy (by omega)
    clear hown hgrow hor
    have fn := Dn.f4
    have fk4 := Dk4.f4
    have fR := R.f
    go_wp2_with fail
    clear fn fk4 fR
    have Dr := (Dr.far (b' := nb) (j := 3) (by omega) (.slice (some ⟨ga, 0, none⟩) (n + 1) ca))
    have Dn : At ((w1d).setCell ⟨nb, 3, none⟩ (.slice (some ⟨ga, 0, none⟩) (n + 1) ca)) (nb) [.int .u8 124, .bool false, .slice none 0 0, .slice (some ⟨ga, 0, none⟩) (n + 1) ca] := (Dn.set 3 (.slice (some ⟨ga, 0, none⟩) (n + 1) ca))
    obtain ⟨R, P, O, X0, X1⟩ := (fun o => And.intro (R.far (c := nb) 3 (by omega) o) (And.intro (P.setCell (p := ⟨nb, 3, none⟩) (.inl (by dsimp only; omega)) o) (And.intro (O.setCell (p := ⟨nb, 3, none⟩) (by dsimp only; omega) o) (And.intro (X0.setCell (p := ⟨nb, 3, none⟩) (by dsimp only; omega) o) (X1.setCell (p := ⟨nb, 3, none⟩) (by dsimp only; omega) o))))) (.slice (some ⟨ga, 0, none⟩) (n + 1) ca)
    generalize (w1d).setCell ⟨nb, 3, none⟩ (.slice (some ⟨ga, 0, none⟩) (n + 1) ca) = yd at *
    have fn := Dn.f4
    have fR := R.f
    go_quiet (fail)
    clear fn fR
    have Dr := (Dr.drewN nq)
    have Dn := (Dn.drewN nq)
    have R := (R.drewN nq)
    have P := (P.drewN nq)
    have O := (O.drewN nq)
    have X0 := (X0.drewN nq)
    have X1 := (X1.drewN nq)
    generalize (yd).drewN nq = zd at *
    have fr := Dr.f4
    have fn := Dn.f4
    have fR := R.f
    go_upto_region 6 with (fail)
    repeat go_step
    clear fr fn fR
    obtain ⟨Dr, Dn, R, P, O, X0, X1⟩ := (fun o0 o1 o2 o3 => And.intro (Dr.puts4 o0 o1 o2 o3) (And.intro (Dn.fars4 (w.heap.size) (by omega) o0 o1 o2 o3) (And.intro (R.fars4 (w.heap.size) (by omega) o0 o1 o2 o3) (And.intro (P.sets4 (w.heap.size) (by omega) o0 o1 o2 o3) (And.intro (O.sets4 (w.heap.size) (by omega) o0 o1 o2 o3) (And.intro (X0.sets4 (w.heap.size) (by omega) o0 o1 o2 o3) (X1.sets4 (w.heap.size) (by omega) o0 o1 o2 o3))))))) (.int .u8 124) (.bool false) (.slice none 0 0) (.slice (some ⟨ga, 0, none⟩) (n + 1) ca)
    generalize ((((zd).setCell ⟨w.heap.size, 0, none⟩ (.int .u8 124)).setCell ⟨w.heap.size, 1, none⟩ (.bool false)).setCell ⟨w.heap.size, 2, none⟩ (.slice none 0 0)).setCell ⟨w.heap.size, 3, none⟩ (.slice (some ⟨ga, 0, none⟩) (n + 1) ca) = fd at *
    have fr := Dr.f4
    have fn := Dn.f4
    have fR := R.f
    refine bodyPost_ret (v := ndV ⟨124, false, none, 0, 0, some ⟨ga, 0, none⟩, n + 1, ca⟩) (by simp [results, Tryz.results37, go_sem, fr]; try rfl) rfl ?_
    have hTe := ch_end HST.out HS1.out (H124.out)
    have hnode := O.node (by omega) (by omega) (S := Rng w fd) (fun x hx => ⟨by have := hx.1; omega, hx.2⟩) (o := 124) (p := (ps ++ [p]).foldl .alt .nil) (Or.inl ⟨rfl, rfl⟩)
    rw [hTe]
    exact ⟨⟨124, false, none, 0, 0, some ⟨ga, 0, none⟩, n + 1, ca⟩, _, _, _, _, _, rfl, R, P, rfl, rfl, rfl, _, hnode⟩
end Go.Proofs.YtjnbgbdfoknakaaGreatDoor
