/- The reference: row, its atoms by their contract. -/
import Derived.Test.YtjnbgbdfoknakaaGreatDoorRChoice
import Derived.Deep.RegionHeld3
import Derived.OrdersHeld
import Derived.Deep.DeepCutAuto
namespace Go.Proofs.YtjnbgbdfoknakaaGreatDoor
open Go Go.Proofs Go.RowKit Go.Shelf
set_option maxRecDepth 100000
attribute [local go_sem] cell_set ndV
def RAtomOK (b : Nat) (s : ByteArray) (l : List UInt8) (dp : Nat) (inner : Nat → Rx.Res Rx.Pt) : Prop :=
 ∀ (z dz : Int) (k : Nat) (w : World), Pa b s l z dz 0 0 k dp w → Calls Tryz.prog 63 #[.pointer (some ⟨b, 0, none⟩)] w (NP b w s l dp (Rx.atomF inner l k))
def RoSt (inner : Nat → Rx.Res Rx.Pt) (l : List UInt8) (T : Rx.Res Rx.Pt) (k : Nat) (bad pos : Int) (ps : List Rx.Pt) : Prop :=
 (bad = 0 ∧ pos = 0 ∧ ps.length ≤ k ∧ ∃ f, l.length - k < f ∧ T = match Rx.partF inner l k with | .bad e j => .bad e j | .ok p i => Rx.rowL inner l f i (.seq (ps.foldl .seq .eps) p)) ∨ (∃ er j, T = .bad er j ∧ bad = (er : Int) ∧ pos = (j : Int) ∧ er ≠ 0)
def RoOk (inner : Nat → Rx.Res Rx.Pt) (l : List UInt8) (T : Rx.Res Rx.Pt) (k : Nat) (ps : List Rx.Pt) : Prop :=
 ps.length ≤ k ∧ ∃ f, l.length - k < f ∧ T = match Rx.partF inner l k with | .bad e j => .bad e j | .ok p i => Rx.rowL inner l f i (.seq (ps.foldl .seq .eps) p)
theorem fold_seq (ps : List Rx.Pt) (p : Rx.Pt) : (ps ++ [p]).foldl Rx.Pt.seq .eps = .seq (ps.foldl .seq .eps) p := by rw [List.foldl_append]; rfl
theorem ro_bad {inner : Nat → Rx.Res Rx.Pt} {l : List UInt8} {T : Rx.Res Rx.Pt} {k : Nat} {ps : List Rx.Pt} (h : RoOk inner l T k ps) {er j : Nat} (hr : Rx.atomF inner l k = .bad er j) : T = .bad er j := by
 obtain ⟨_, f, _, h⟩ := h
 have hp : Rx.partF inner l k = .bad er j := by unfold Rx.partF; rw [hr]
 rw [h, hp]
theorem ro_end {inner : Nat → Rx.Res Rx.Pt} {l : List UInt8} {T : Rx.Res Rx.Pt} {k : Nat} {ps : List Rx.Pt} (h : RoOk inner l T k ps) {p : Rx.Pt} {i : Nat} (hr : Rx.partF inner l k = .ok p i) (he : l.length ≤ i ∨ Rx.pk l i = 124 ∨ Rx.pk l i = 41) : T = .ok ((ps ++ [p]).foldl .seq .eps) i := by
 obtain ⟨_, f, hf, h⟩ := h
 obtain ⟨f, rfl⟩ : ∃ g, f = g + 1 := ⟨f - 1, by omega⟩
 rw [h, hr, fold_seq]; dsimp only; unfold Rx.rowL
 rw [if_pos (by unfold Rx.rowEnd; simp only [Bool.or_eq_true, decide_eq_true_eq, beq_iff_eq]; rcases he with h | h | h; exact Or.inl (Or.inl h); exact Or.inl (Or.inr h); exact Or.inr h)]
theorem ro_more {inner : Nat → Rx.Res Rx.Pt} {l : List UInt8} {T : Rx.Res Rx.Pt} {k : Nat} {ps : List Rx.Pt} (h : RoOk inner l T k ps) {p : Rx.Pt} {i : Nat} (hr : Rx.partF inner l k = .ok p i) (hl : i < l.length) (h1 : Rx.pk l i ≠ 124) (h2 : Rx.pk l i ≠ 41) (hi : k < i) : RoSt inner l T i 0 0 (ps ++ [p]) := by
 obtain ⟨h0, f, hf, h⟩ := h
 obtain ⟨f, rfl⟩ : ∃ g, f = g + 1 := ⟨f - 1, by omega⟩
 refine Or.inl ⟨rfl, rfl, by rw [List.length_append]; simp; omega, f, by omega, ?_⟩
 rw [h, hr, fold_seq]; dsimp only; conv => lhs; unfold Rx.rowL
 rw [if_neg (by unfold Rx.rowEnd; simp only [Bool.or_eq_true, decide_eq_true_eq, beq_iff_eq]; rintro ((h | h) | h); omega; exact h1 h; exact h2 h)]
 cases Rx.partF inner l i <;> rfl
theorem part_star {inner : Nat → Rx.Res Rx.Pt} {l : List UInt8} {k j : Nat} {q : Rx.Pt} (h : Rx.atomF inner l k = .ok q j) (hp : Rx.pk l j = 42) : Rx.partF inner l k = .ok (.star q) (j + 1) := by unfold Rx.partF; rw [h]; dsimp only; rw [if_pos hp]
theorem part_plus {inner : Nat → Rx.Res Rx.Pt} {l : List UInt8} {k j : Nat} {q : Rx.Pt} (h : Rx.atomF inner l k = .ok q j) (hp : Rx.pk l j = 43) : Rx.partF inner l k = .ok (.plus q) (j + 1) := by unfold Rx.partF; rw [h]; dsimp only; rw [if_neg (by omega), if_pos hp]
theorem part_opt {inner : Nat → Rx.Res Rx.Pt} {l : List UInt8} {k j : Nat} {q : Rx.Pt} (h : Rx.atomF inner l k = .ok q j) (hp : Rx.pk l j = 63) : Rx.partF inner l k = .ok (.opt q) (j + 1) := by unfold Rx.partF; rw [h]; dsimp only; rw [if_neg (by omega), if_neg (by omega), if_pos hp]
theorem part_one {inner : Nat → Rx.Res Rx.Pt} {l : List UInt8} {k j : Nat} {q : Rx.Pt} (h : Rx.atomF inner l k = .ok q j) (h1 : Rx.pk l j ≠ 42) (h2 : Rx.pk l j ≠ 43) (h3 : Rx.pk l j ≠ 63) : Rx.partF inner l k = .ok q j := by unfold Rx.partF; rw [h]; dsimp only; rw [if_neg h1, if_neg h2, if_neg h3]
set_option maxHeartbeats 16000000 in
theorem rrow_any (b : Nat) (s : ByteArray) (l : List UInt8) (dp : Nat) (inner : Nat → Rx.Res Rx.Pt) (hin : ∀ k, Rx.pk l k = 40 → Rx.Goes l k (inner k) (Rx.Few k)) (HA0 : RAtomOK b s l dp inner) : RRowOK b s l dp inner := by
 intro z0 dz k w R
 obtain rfl := R.hk
 obtain ⟨i0, hi, hz0, hz1, hz2⟩ := info_parts info_nodeR
 have HI := Lib.hid hi
 have HZ := Lib.hid hz0
 have HZ1 := Lib.hid hz1
 have HZ2 := Lib.hid hz2
 clear hi hz0 hz1 hz2
 have hsz : s.size = l.length := by rw [Lib.size_eq, R.txt]
 have hl := R.ll
 have P := Kq.refl b w
 have hw0 := R.cells.lt
 obtain ⟨T, hT⟩ : ∃ T, Rx.rowF inner l k = T := ⟨_, rfl⟩
 have hST : RoSt inner l T k 0 0 [] := Or.inl ⟨rfl, rfl, by simp, l.length + 1, by omega, by rw [← hT]; rfl⟩
 rw [hT]
 have HST := Lib.hid hST
 have HA0 := Lib.hid HA0
 have HIN := Lib.hid hin
 clear hT hST hin
 have fR := R.f
 go_enter Tryz.func50, Tryz.ntmps50
 go_wp2_with fail
 clear fR
 have uR0 := R.cells.lt
 have Dr : At (((w).alloc (.cells #[.int .u8 0, .bool false, .slice none 0 0, .slice none 0 0] 55)).alloc (.cells #[.int .u8 38, .bool false, .slice none 0 0, .slice none 0 0] 55)) (w.heap.size) [.int .u8 0, .bool false, .slice none 0 0, .slice none 0 0] := by have h := ((At.new (w) #[.int .u8 0, .bool false, .slice none 0 0, .slice none 0 0] 55).alloc (.cells #[.int .u8 38, .bool false, .slice none 0 0, .slice none 0 0] 55)); simpa using h
 have Dn : At (((w).alloc (.cells #[.int .u8 0, .bool false, .slice none 0 0, .slice none 0 0] 55)).alloc (.cells #[.int .u8 38, .bool false, .slice none 0 0, .slice none 0 0] 55)) (w.heap.size + 1) [.int .u8 38, .bool false, .slice none 0 0, .slice none 0 0] := by have h := (At.new ((w).alloc (.cells #[.int .u8 0, .bool false, .slice none 0 0, .slice none 0 0] 55)) #[.int .u8 38, .bool false, .slice none 0 0, .slice none 0 0] 55); simpa using h
 have R := ((R.alloc (.cells #[.int .u8 0, .bool false, .slice none 0 0, .slice none 0 0] 55)).alloc (.cells #[.int .u8 38, .bool false, .slice none 0 0, .slice none 0 0] 55))
 have P := ((P.alloc (.cells #[.int .u8 0, .bool false, .slice none 0 0, .slice none 0 0] 55)).alloc (.cells #[.int .u8 38, .bool false, .slice none 0 0, .slice none 0 0] 55))
 generalize ((w).alloc (.cells #[.int .u8 0, .bool false, .slice none 0 0, .slice none 0 0] 55)).alloc (.cells #[.int .u8 38, .bool false, .slice none 0 0, .slice none 0 0] 55) = v0 at *
 have hnr : w.heap.size < w.heap.size + 1 := Nat.lt_succ_self _
 obtain ⟨nb, hnb⟩ : ∃ nb, nb = w.heap.size + 1 := ⟨_, rfl⟩
 rw [← hnb] at Dn ⊢
 have hrn : w.heap.size < nb := by omega
 clear hnb hnr
 obtain ⟨bs, hbs⟩ : ∃ bs, bs = v0.heap.size := ⟨_, rfl⟩
 have hnbs : nb < bs := by have h := Dn.lt; omega
 have hbs2 : bs ≤ v0.heap.size := by omega
 clear hbs
 have O := Kidz.nil v0 bs
 go_loopw [4] (fun v4 wr => ∃ (ps : List Rx.Pt) (ka : Option Addr) (n kc : Nat) (z dz1 bad pos : Int) (k : Nat), RoSt inner l T k bad pos ps ∧ Pa b s l z dz1 bad pos k dp wr ∧ Kq b w wr ∧ (bad = 0 → ∃ (d : Nat) (ys : List Nd), Kidz bs wr ka n kc d ys ps) ∧ At wr nb [.int .u8 38, .bool false, .slice none 0 0, .slice ka n kc] ∧ At wr w.heap.size [.int .u8 0, .bool false, .slice none 0 0, .slice none 0 0] ∧ bs ≤ wr.heap.size) (fun _ wr => paM l b wr)
 case atStart => exact ⟨[], none, 0, 0, _, _, _, _, _, HST.out, R, P, fun _ => ⟨0, [], O⟩, Dn, Dr, hbs2⟩
 case round =>
  clear Dn Dr R P O HST
  obtain ⟨ps, ka, n, kc, z, dz1, bad, pos, k0, hst, R, P, hO, Dn, Dr, hble⟩ := hrel
  have hkl := R.kl
  rcases hst with ⟨rfl, rfl, hst⟩ | ⟨er, j, hT, rfl, rfl, hne⟩
  ·
   obtain ⟨d, ys, O⟩ := hO rfl
   clear hO
   obtain rfl := R.hk
   have hM : paM l b wr = l.length - k0 + 1 := by rw [paM_at R, if_pos rfl]
   have HST : Hid (RoOk inner l T k0 ps) := hst
   have hn70 := O.hn
   have hnp : n ≤ k0 := by have h := O.len; have h2 := hst.1; omega
   clear hst hn70
   have hown0 : ∀ g, (Value.slice ka n kc).ownBlock = some g → g < wr.heap.size := fun g e => (O.lt g e).2
   have X0 : Kx (bs) (bs) wr wr := ⟨hble, fun _ _ _ => by omega⟩
   have X2 := Kx.refl (bs) wr
   have fn := Dn.f4
   have fR := R.f
   go_wp2_with fail
   clear fn fR
   have ltr := Dr.lt
   have ltn := Dn.lt
   have ltR := R.cells.lt
   refine (HA0.out _ _ _ _ R).mono ?_
   rintro e w1 ⟨xn, z1, dz2, bad, pos, k1, rfl, R2, P2, hs1⟩
   have Dr := Dr.kq P2 (by omega)
   have Dn := Dn.kq P2 (by omega)
   have X0 := X0.kq P2 (by omega)
   have X2 := X2.kq P2 (by omega)
   have P := P.trans P2
   have P3 := P2
   have R := R2
   clear R2 P2
   have ltRX1 := ltR
   clear ltR
   have ltrX1 := ltr
   have ltnX1 := ltn
   clear ltr
   clear ltn
   have X1 := Kx.refl (wr.heap.size) w1
   have fn := Dn.f4
   have fR := R.f
   have hwr := P3.size
   clear P3
   obtain ⟨xo, xb, sa, sl, sc, ka4, kl4, kc4⟩ := xn
   cases hS1 : Rx.atomF inner l k0 with
   | bad er j =>
    rw [hS1] at hs1
    obtain ⟨rfl, rfl, hne⟩ := hs1
    have hTb := ro_bad HST.out hS1
    have hne2 : ((er : Int) == 0) = false := by rw [beq_eq_false_iff_ne]; omega
    have hneI : ¬ ((er : Int) = 0) := by omega
    have hk1l := R.kl
    have hz1 := R.hk
    clear hS1
    have HTB := Lib.hid hTb
    clear hTb
    subst hz1
    by_cases hqa : l.length ≤ k1
    ·
     have dqa : decide ((l.length : Int) ≤ (k1 : Int)) = true := decide_eq_true (by omega)
     have dla : decide ((k1 : Int) < (l.length : Int)) = false := decide_eq_false (by omega)
     have dma : decide (k1 < l.length) = false := decide_eq_false (by omega)
     have doa : decide (l.length ≤ k1) = true := decide_eq_true (by omega)
     go_upto_region 4 with (fail)
     clear fn fR
     have ur1 := Dr.lt
     have un1 := Dn.lt
     have uR1 := R.cells.lt
     have Dk4 := At.nw (w1) [.int .u8 xo, .bool xb, .slice sa sl sc, .slice ka4 kl4 kc4] 55
     obtain ⟨Dr, Dn, R, P⟩ := (fun o => And.intro (Dr.alloc o) (And.intro (Dn.alloc o) (And.intro (R.alloc o) (P.alloc o)))) (.cells #[.int .u8 xo, .bool xb, .slice sa sl sc, .slice ka4 kl4 kc4] 55)
     have X0le := X0.le
     have X0 := (X0.alloc (.cells #[.int .u8 xo, .bool xb, .slice sa sl sc, .slice ka4 kl4 kc4] 55))
     have X2le := X2.le
     have X2 := (X2.alloc (.cells #[.int .u8 xo, .bool xb, .slice sa sl sc, .slice ka4 kl4 kc4] 55))
     have X1le := X1.le
     have X1 := (X1.alloc (.cells #[.int .u8 xo, .bool xb, .slice sa sl sc, .slice ka4 kl4 kc4] 55))
     generalize (w1).alloc (.cells #[.int .u8 xo, .bool xb, .slice sa sl sc, .slice ka4 kl4 kc4] 55) = qae at *
     have fn := Dn.f4
     have fk4 := Dk4.f4
     have fR := R.f
     go_quiet (fail)
     clear fn fk4 fR
     have Dr := (Dr.drewN nq)
     have Dn := (Dn.drewN nq)
     have Dk4 := (Dk4.drewN nq)
     have R := (R.drewN nq)
     have P := (P.drewN nq)
     have X0 := (X0.drewN nq)
     have X2 := (X2.drewN nq)
     have X1 := (X1.drewN nq)
     generalize (qae).drewN nq = pae at *
     have fn := Dn.f4
     have fk4 := Dk4.f4
     have fR := R.f
     have O := O.keep X2.le X2.same
     clear X2
     go_wp2_with (at_builtin; refine wpList_append_own_at _ rfl _ _ 53 rfl bs 55 i0 (.agg #[.int .u8 0, .bool false, .slice none 0 0, .slice none 0 0]) 4 56 Tryz.underlying53 HI.out HZ.out HZ1.out HZ2.out rfl (by decide) _ _ _ rfl (O.own.alloc _) ⟨pae.heap.size, 0, none⟩ 1 1 [.int .u8 xo, .bool xb, .slice sa sl sc, .slice ka4 kl4 kc4] rfl rfl (cells4_new _ _ _ _ _ _) ?j1ae ?j2ae ?j3ae ?j4ae ?_)
     case j1ae => first | (intro u hu; simp at hu; rcases hu with rfl | rfl | rfl | rfl <;> rfl) | exact ⟨rfl, rfl, rfl, rfl⟩
     case j2ae => have h1 := O.few; unfold maxLen; omega
     case j3ae => have h1 := O.few; omega
     case j4ae => (try simp); have h1 := X0.le; omega
     intro v' w1ae hown hgrow _ hor
     obtain ⟨ga, ca, rfl, hgaae, hgbae⟩ := hown.form (by omega)
     clear fn fk4 fR
     have Dr := grown_at hgrow (Dr.alloc (.cells #[.int .u8 xo, .bool xb, .slice sa sl sc, .slice ka4 kl4 kc4] 55)) (fun e2 => by have h1 := (O.lt _ e2).1; have h2 := hown0 _ e2; omega)
     have Dn := grown_at hgrow (Dn.alloc (.cells #[.int .u8 xo, .bool xb, .slice sa sl sc, .slice ka4 kl4 kc4] 55)) (fun e2 => by have h1 := (O.lt _ e2).1; have h2 := hown0 _ e2; omega)
     have Dk4 := grown_at hgrow (Dk4.alloc (.cells #[.int .u8 xo, .bool xb, .slice sa sl sc, .slice ka4 kl4 kc4] 55)) (fun e2 => by have h1 := (O.lt _ e2).1; have h2 := hown0 _ e2; omega)
     have X0 := (X0.alloc (.cells #[.int .u8 xo, .bool xb, .slice sa sl sc, .slice ka4 kl4 kc4] 55)).grown hgrow (fun g e2 => by have h1 := O.lt _ e2; have h2 := hown0 _ e2; omega)
     have X1 := (X1.alloc (.cells #[.int .u8 xo, .bool xb, .slice sa sl sc, .slice ka4 kl4 kc4] 55)).grown hgrow (fun g e2 => by have h1 := O.lt _ e2; have h2 := hown0 _ e2; omega)
     have R := (R.alloc (.cells #[.int .u8 xo, .bool xb, .slice sa sl sc, .slice ka4 kl4 kc4] 55)).grown hgrow (fun e2 => by have h1 := (O.lt _ e2).1; omega)
     have P := (P.alloc (.cells #[.int .u8 xo, .bool xb, .slice sa sl sc, .slice ka4 kl4 kc4] 55)).grown hgrow (fun g e2 => by have h1 := (O.lt _ e2).1; omega)
     clear hown hgrow hor
     have fn := Dn.f4
     have fk4 := Dk4.f4
     have fR := R.f
     go_wp2_with fail
     clear fn fk4 fR
     have Dr := (Dr.far (b' := nb) (j := 3) (by omega) (.slice (some ⟨ga, 0, none⟩) (n + 1) ca))
     have Dn : At ((w1ae).setCell ⟨nb, 3, none⟩ (.slice (some ⟨ga, 0, none⟩) (n + 1) ca)) (nb) [.int .u8 38, .bool false, .slice none 0 0, .slice (some ⟨ga, 0, none⟩) (n + 1) ca] := (Dn.set 3 (.slice (some ⟨ga, 0, none⟩) (n + 1) ca))
     obtain ⟨R, P, X0, X1⟩ := (fun o => And.intro (R.far (c := nb) 3 (by omega) o) (And.intro (P.setCell (p := ⟨nb, 3, none⟩) (.inl (by dsimp only; omega)) o) (And.intro (X0.setCell (p := ⟨nb, 3, none⟩) (by dsimp only; omega) o) (X1.setCell (p := ⟨nb, 3, none⟩) (by dsimp only; omega) o)))) (.slice (some ⟨ga, 0, none⟩) (n + 1) ca)
     generalize (w1ae).setCell ⟨nb, 3, none⟩ (.slice (some ⟨ga, 0, none⟩) (n + 1) ca) = yae at *
     have fn := Dn.f4
     have fR := R.f
     go_quiet (fail)
     clear fn fR
     have Dr := (Dr.drewN nq)
     have Dn := (Dn.drewN nq)
     have R := (R.drewN nq)
     have P := (P.drewN nq)
     have X0 := (X0.drewN nq)
     have X1 := (X1.drewN nq)
     generalize (yae).drewN nq = zae at *
     have fr := Dr.f4
     have fn := Dn.f4
     have fR := R.f
     go_upto_region 9 with (fail)
     repeat go_step
     clear fr fn fR
     obtain ⟨Dr, Dn, R, P, X0, X1⟩ := (fun o0 o1 o2 o3 => And.intro (Dr.puts4 o0 o1 o2 o3) (And.intro (Dn.fars4 (w.heap.size) (by omega) o0 o1 o2 o3) (And.intro (R.fars4 (w.heap.size) (by omega) o0 o1 o2 o3) (And.intro (P.sets4 (w.heap.size) (by omega) o0 o1 o2 o3) (And.intro (X0.sets4 (w.heap.size) (by omega) o0 o1 o2 o3) (X1.sets4 (w.heap.size) (by omega) o0 o1 o2 o3)))))) (.int .u8 38) (.bool false) (.slice none 0 0) (.slice (some ⟨ga, 0, none⟩) (n + 1) ca)
     generalize ((((zae).setCell ⟨w.heap.size, 0, none⟩ (.int .u8 38)).setCell ⟨w.heap.size, 1, none⟩ (.bool false)).setCell ⟨w.heap.size, 2, none⟩ (.slice none 0 0)).setCell ⟨w.heap.size, 3, none⟩ (.slice (some ⟨ga, 0, none⟩) (n + 1) ca) = fae at *
     have fr := Dr.f4
     have fn := Dn.f4
     have fR := R.f
     refine bodyPost_ret (v := ndV ⟨38, false, none, 0, 0, some ⟨ga, 0, none⟩, n + 1, ca⟩) (by simp [results, Tryz.results50, go_sem, fr]; try rfl) rfl ?_
     rw [HTB.out]
     exact ⟨⟨38, false, none, 0, 0, some ⟨ga, 0, none⟩, n + 1, ca⟩, _, _, _, _, _, rfl, R, P, rfl, rfl, hne⟩
    by_cases h124a : Rx.pk l k1 = 124
    ·
     have hxa := pk_byteAt R.txt k1 (by omega)
     rw [h124a] at hxa
     have hqla : (k1 : Int) < (l.length : Int) := by omega
     have hqna : ¬ ((l.length : Int) ≤ (k1 : Int)) := by omega
     have hqma : (0 : Int) ≤ (k1 : Int) := by omega
     have dqa : decide ((l.length : Int) ≤ (k1 : Int)) = false := decide_eq_false hqna
     have dla : decide ((k1 : Int) < (l.length : Int)) = true := decide_eq_true hqla
     have HEa := Lib.hid h124a
     clear h124a
     go_upto_region 4 with (fail)
     clear fn fR
     have ur1 := Dr.lt
     have un1 := Dn.lt
     have uR1 := R.cells.lt
     have Dk4 := At.nw (w1) [.int .u8 xo, .bool xb, .slice sa sl sc, .slice ka4 kl4 kc4] 55
     obtain ⟨Dr, Dn, R, P⟩ := (fun o => And.intro (Dr.alloc o) (And.intro (Dn.alloc o) (And.intro (R.alloc o) (P.alloc o)))) (.cells #[.int .u8 xo, .bool xb, .slice sa sl sc, .slice ka4 kl4 kc4] 55)
     have X0le := X0.le
     have X0 := (X0.alloc (.cells #[.int .u8 xo, .bool xb, .slice sa sl sc, .slice ka4 kl4 kc4] 55))
     have X2le := X2.le
     have X2 := (X2.alloc (.cells #[.int .u8 xo, .bool xb, .slice sa sl sc, .slice ka4 kl4 kc4] 55))
     have X1le := X1.le
     have X1 := (X1.alloc (.cells #[.int .u8 xo, .bool xb, .slice sa sl sc, .slice ka4 kl4 kc4] 55))
     generalize (w1).alloc (.cells #[.int .u8 xo, .bool xb, .slice sa sl sc, .slice ka4 kl4 kc4] 55) = qas at *
     have fn := Dn.f4
     have fk4 := Dk4.f4
     have fR := R.f
     go_quiet (fail)
     clear fn fk4 fR
     have Dr := (Dr.drewN nq)
     have Dn := (Dn.drewN nq)
     have Dk4 := (Dk4.drewN nq)
     have R := (R.drewN nq)
     have P := (P.drewN nq)
     have X0 := (X0.drewN nq)
     have X2 := (X2.drewN nq)
     have X1 := (X1.drewN nq)
     generalize (qas).drewN nq = pas at *
     have fn := Dn.f4
     have fk4 := Dk4.f4
     have fR := R.f
     have O := O.keep X2.le X2.same
     clear X2
     go_wp2_with (at_builtin; refine wpList_append_own_at _ rfl _ _ 53 rfl bs 55 i0 (.agg #[.int .u8 0, .bool false, .slice none 0 0, .slice none 0 0]) 4 56 Tryz.underlying53 HI.out HZ.out HZ1.out HZ2.out rfl (by decide) _ _ _ rfl (O.own.alloc _) ⟨pas.heap.size, 0, none⟩ 1 1 [.int .u8 xo, .bool xb, .slice sa sl sc, .slice ka4 kl4 kc4] rfl rfl (cells4_new _ _ _ _ _ _) ?j1as ?j2as ?j3as ?j4as ?_)
     case j1as => first | (intro u hu; simp at hu; rcases hu with rfl | rfl | rfl | rfl <;> rfl) | exact ⟨rfl, rfl, rfl, rfl⟩
     case j2as => have h1 := O.few; unfold maxLen; omega
     case j3as => have h1 := O.few; omega
     case j4as => (try simp); have h1 := X0.le; omega
     intro v' w1as hown hgrow _ hor
     obtain ⟨ga, ca, rfl, hgaas, hgbas⟩ := hown.form (by omega)
     clear fn fk4 fR
     have Dr := grown_at hgrow (Dr.alloc (.cells #[.int .u8 xo, .bool xb, .slice sa sl sc, .slice ka4 kl4 kc4] 55)) (fun e2 => by have h1 := (O.lt _ e2).1; have h2 := hown0 _ e2; omega)
     have Dn := grown_at hgrow (Dn.alloc (.cells #[.int .u8 xo, .bool xb, .slice sa sl sc, .slice ka4 kl4 kc4] 55)) (fun e2 => by have h1 := (O.lt _ e2).1; have h2 := hown0 _ e2; omega)
     have Dk4 := grown_at hgrow (Dk4.alloc (.cells #[.int .u8 xo, .bool xb, .slice sa sl sc, .slice ka4 kl4 kc4] 55)) (fun e2 => by have h1 := (O.lt _ e2).1; have h2 := hown0 _ e2; omega)
     have X0 := (X0.alloc (.cells #[.int .u8 xo, .bool xb, .slice sa sl sc, .slice ka4 kl4 kc4] 55)).grown hgrow (fun g e2 => by have h1 := O.lt _ e2; have h2 := hown0 _ e2; omega)
     have X1 := (X1.alloc (.cells #[.int .u8 xo, .bool xb, .slice sa sl sc, .slice ka4 kl4 kc4] 55)).grown hgrow (fun g e2 => by have h1 := O.lt _ e2; have h2 := hown0 _ e2; omega)
     have R := (R.alloc (.cells #[.int .u8 xo, .bool xb, .slice sa sl sc, .slice ka4 kl4 kc4] 55)).grown hgrow (fun e2 => by have h1 := (O.lt _ e2).1; omega)
     have P := (P.alloc (.cells #[.int .u8 xo, .bool xb, .slice sa sl sc, .slice ka4 kl4 kc4] 55)).grown hgrow (fun g e2 => by have h1 := (O.lt _ e2).1; omega)
     clear hown hgrow hor
     have fn := Dn.f4
     have fk4 := Dk4.f4
     have fR := R.f
     go_wp2_with fail
     clear fn fk4 fR
     have Dr := (Dr.far (b' := nb) (j := 3) (by omega) (.slice (some ⟨ga, 0, none⟩) (n + 1) ca))
     have Dn : At ((w1as).setCell ⟨nb, 3, none⟩ (.slice (some ⟨ga, 0, none⟩) (n + 1) ca)) (nb) [.int .u8 38, .bool false, .slice none 0 0, .slice (some ⟨ga, 0, none⟩) (n + 1) ca] := (Dn.set 3 (.slice (some ⟨ga, 0, none⟩) (n + 1) ca))
     obtain ⟨R, P, X0, X1⟩ := (fun o => And.intro (R.far (c := nb) 3 (by omega) o) (And.intro (P.setCell (p := ⟨nb, 3, none⟩) (.inl (by dsimp only; omega)) o) (And.intro (X0.setCell (p := ⟨nb, 3, none⟩) (by dsimp only; omega) o) (X1.setCell (p := ⟨nb, 3, none⟩) (by dsimp only; omega) o)))) (.slice (some ⟨ga, 0, none⟩) (n + 1) ca)
     generalize (w1as).setCell ⟨nb, 3, none⟩ (.slice (some ⟨ga, 0, none⟩) (n + 1) ca) = yas at *
     have fn := Dn.f4
     have fR := R.f
     go_quiet (fail)
     clear fn fR
     have Dr := (Dr.drewN nq)
     have Dn := (Dn.drewN nq)
     have R := (R.drewN nq)
     have P := (P.drewN nq)
     have X0 := (X0.drewN nq)
     have X1 := (X1.drewN nq)
     generalize (yas).drewN nq = zas at *
     have fr := Dr.f4
     have fn := Dn.f4
     have fR := R.f
     go_upto_region 9 with (fail)
     repeat go_step
     clear fr fn fR
     obtain ⟨Dr, Dn, R, P, X0, X1⟩ := (fun o0 o1 o2 o3 => And.intro (Dr.puts4 o0 o1 o2 o3) (And.intro (Dn.fars4 (w.heap.size) (by omega) o0 o1 o2 o3) (And.intro (R.fars4 (w.heap.size) (by omega) o0 o1 o2 o3) (And.intro (P.sets4 (w.heap.size) (by omega) o0 o1 o2 o3) (And.intro (X0.sets4 (w.heap.size) (by omega) o0 o1 o2 o3) (X1.sets4 (w.heap.size) (by omega) o0 o1 o2 o3)))))) (.int .u8 38) (.bool false) (.slice none 0 0) (.slice (some ⟨ga, 0, none⟩) (n + 1) ca)
     generalize ((((zas).setCell ⟨w.heap.size, 0, none⟩ (.int .u8 38)).setCell ⟨w.heap.size, 1, none⟩ (.bool false)).setCell ⟨w.heap.size, 2, none⟩ (.slice none 0 0)).setCell ⟨w.heap.size, 3, none⟩ (.slice (some ⟨ga, 0, none⟩) (n + 1) ca) = fas at *
     have fr := Dr.f4
     have fn := Dn.f4
     have fR := R.f
     refine bodyPost_ret (v := ndV ⟨38, false, none, 0, 0, some ⟨ga, 0, none⟩, n + 1, ca⟩) (by simp [results, Tryz.results50, go_sem, fr]; try rfl) rfl ?_
     rw [HTB.out]
     exact ⟨⟨38, false, none, 0, 0, some ⟨ga, 0, none⟩, n + 1, ca⟩, _, _, _, _, _, rfl, R, P, rfl, rfl, hne⟩
    by_cases h41a : Rx.pk l k1 = 41
    ·
     have hxa := pk_byteAt R.txt k1 (by omega)
     rw [h41a] at hxa
     have hqla : (k1 : Int) < (l.length : Int) := by omega
     have hqna : ¬ ((l.length : Int) ≤ (k1 : Int)) := by omega
     have hqma : (0 : Int) ≤ (k1 : Int) := by omega
     have dqa : decide ((l.length : Int) ≤ (k1 : Int)) = false := decide_eq_false hqna
     have dla : decide ((k1 : Int) < (l.length : Int)) = true := decide_eq_true hqla
     have HEa := Lib.hid h41a
     have HNa := Lib.hid h124a
     clear h41a h124a
     go_upto_region 4 with (fail)
     clear fn fR
     have ur1 := Dr.lt
     have un1 := Dn.lt
     have uR1 := R.cells.lt
     have Dk4 := At.nw (w1) [.int .u8 xo, .bool xb, .slice sa sl sc, .slice ka4 kl4 kc4] 55
     obtain ⟨Dr, Dn, R, P⟩ := (fun o => And.intro (Dr.alloc o) (And.intro (Dn.alloc o) (And.intro (R.alloc o) (P.alloc o)))) (.cells #[.int .u8 xo, .bool xb, .slice sa sl sc, .slice ka4 kl4 kc4] 55)
     have X0le := X0.le
     have X0 := (X0.alloc (.cells #[.int .u8 xo, .bool xb, .slice sa sl sc, .slice ka4 kl4 kc4] 55))
     have X2le := X2.le
     have X2 := (X2.alloc (.cells #[.int .u8 xo, .bool xb, .slice sa sl sc, .slice ka4 kl4 kc4] 55))
     have X1le := X1.le
     have X1 := (X1.alloc (.cells #[.int .u8 xo, .bool xb, .slice sa sl sc, .slice ka4 kl4 kc4] 55))
     generalize (w1).alloc (.cells #[.int .u8 xo, .bool xb, .slice sa sl sc, .slice ka4 kl4 kc4] 55) = qab at *
     have fn := Dn.f4
     have fk4 := Dk4.f4
     have fR := R.f
     go_quiet (fail)
     clear fn fk4 fR
     have Dr := (Dr.drewN nq)
     have Dn := (Dn.drewN nq)
     have Dk4 := (Dk4.drewN nq)
     have R := (R.drewN nq)
     have P := (P.drewN nq)
     have X0 := (X0.drewN nq)
     have X2 := (X2.drewN nq)
     have X1 := (X1.drewN nq)
     generalize (qab).drewN nq = pab at *
     have fn := Dn.f4
     have fk4 := Dk4.f4
     have fR := R.f
     have O := O.keep X2.le X2.same
     clear X2
     go_wp2_with (at_builtin; refine wpList_append_own_at _ rfl _ _ 53 rfl bs 55 i0 (.agg #[.int .u8 0, .bool false, .slice none 0 0, .slice none 0 0]) 4 56 Tryz.underlying53 HI.out HZ.out HZ1.out HZ2.out rfl (by decide) _ _ _ rfl (O.own.alloc _) ⟨pab.heap.size, 0, none⟩ 1 1 [.int .u8 xo, .bool xb, .slice sa sl sc, .slice ka4 kl4 kc4] rfl rfl (cells4_new _ _ _ _ _ _) ?j1ab ?j2ab ?j3ab ?j4ab ?_)
     case j1ab => first | (intro u hu; simp at hu; rcases hu with rfl | rfl | rfl | rfl <;> rfl) | exact ⟨rfl, rfl, rfl, rfl⟩
     case j2ab => have h1 := O.few; unfold maxLen; omega
     case j3ab => have h1 := O.few; omega
     case j4ab => (try simp); have h1 := X0.le; omega
     intro v' w1ab hown hgrow _ hor
     obtain ⟨ga, ca, rfl, hgaab, hgbab⟩ := hown.form (by omega)
     clear fn fk4 fR
     have Dr := grown_at hgrow (Dr.alloc (.cells #[.int .u8 xo, .bool xb, .slice sa sl sc, .slice ka4 kl4 kc4] 55)) (fun e2 => by have h1 := (O.lt _ e2).1; have h2 := hown0 _ e2; omega)
     have Dn := grown_at hgrow (Dn.alloc (.cells #[.int .u8 xo, .bool xb, .slice sa sl sc, .slice ka4 kl4 kc4] 55)) (fun e2 => by have h1 := (O.lt _ e2).1; have h2 := hown0 _ e2; omega)
     have Dk4 := grown_at hgrow (Dk4.alloc (.cells #[.int .u8 xo, .bool xb, .slice sa sl sc, .slice ka4 kl4 kc4] 55)) (fun e2 => by have h1 := (O.lt _ e2).1; have h2 := hown0 _ e2; omega)
     have X0 := (X0.alloc (.cells #[.int .u8 xo, .bool xb, .slice sa sl sc, .slice ka4 kl4 kc4] 55)).grown hgrow (fun g e2 => by have h1 := O.lt _ e2; have h2 := hown0 _ e2; omega)
     have X1 := (X1.alloc (.cells #[.int .u8 xo, .bool xb, .slice sa sl sc, .slice ka4 kl4 kc4] 55)).grown hgrow (fun g e2 => by have h1 := O.lt _ e2; have h2 := hown0 _ e2; omega)
     have R := (R.alloc (.cells #[.int .u8 xo, .bool xb, .slice sa sl sc, .slice ka4 kl4 kc4] 55)).grown hgrow (fun e2 => by have h1 := (O.lt _ e2).1; omega)
     have P := (P.alloc (.cells #[.int .u8 xo, .bool xb, .slice sa sl sc, .slice ka4 kl4 kc4] 55)).grown hgrow (fun g e2 => by have h1 := (O.lt _ e2).1; omega)
     clear hown hgrow hor
     have fn := Dn.f4
     have fk4 := Dk4.f4
     have fR := R.f
     go_wp2_with fail
     clear fn fk4 fR
     have Dr := (Dr.far (b' := nb) (j := 3) (by omega) (.slice (some ⟨ga, 0, none⟩) (n + 1) ca))
     have Dn : At ((w1ab).setCell ⟨nb, 3, none⟩ (.slice (some ⟨ga, 0, none⟩) (n + 1) ca)) (nb) [.int .u8 38, .bool false, .slice none 0 0, .slice (some ⟨ga, 0, none⟩) (n + 1) ca] := (Dn.set 3 (.slice (some ⟨ga, 0, none⟩) (n + 1) ca))
     obtain ⟨R, P, X0, X1⟩ := (fun o => And.intro (R.far (c := nb) 3 (by omega) o) (And.intro (P.setCell (p := ⟨nb, 3, none⟩) (.inl (by dsimp only; omega)) o) (And.intro (X0.setCell (p := ⟨nb, 3, none⟩) (by dsimp only; omega) o) (X1.setCell (p := ⟨nb, 3, none⟩) (by dsimp only; omega) o)))) (.slice (some ⟨ga, 0, none⟩) (n + 1) ca)
     generalize (w1ab).setCell ⟨nb, 3, none⟩ (.slice (some ⟨ga, 0, none⟩) (n + 1) ca) = yab at *
     have fn := Dn.f4
     have fR := R.f
     go_quiet (fail)
     clear fn fR
     have Dr := (Dr.drewN nq)
     have Dn := (Dn.drewN nq)
     have R := (R.drewN nq)
     have P := (P.drewN nq)
     have X0 := (X0.drewN nq)
     have X1 := (X1.drewN nq)
     generalize (yab).drewN nq = zab at *
     have fr := Dr.f4
     have fn := Dn.f4
     have fR := R.f
     go_upto_region 9 with (fail)
     repeat go_step
     clear fr fn fR
     obtain ⟨Dr, Dn, R, P, X0, X1⟩ := (fun o0 o1 o2 o3 => And.intro (Dr.puts4 o0 o1 o2 o3) (And.intro (Dn.fars4 (w.heap.size) (by omega) o0 o1 o2 o3) (And.intro (R.fars4 (w.heap.size) (by omega) o0 o1 o2 o3) (And.intro (P.sets4 (w.heap.size) (by omega) o0 o1 o2 o3) (And.intro (X0.sets4 (w.heap.size) (by omega) o0 o1 o2 o3) (X1.sets4 (w.heap.size) (by omega) o0 o1 o2 o3)))))) (.int .u8 38) (.bool false) (.slice none 0 0) (.slice (some ⟨ga, 0, none⟩) (n + 1) ca)
     generalize ((((zab).setCell ⟨w.heap.size, 0, none⟩ (.int .u8 38)).setCell ⟨w.heap.size, 1, none⟩ (.bool false)).setCell ⟨w.heap.size, 2, none⟩ (.slice none 0 0)).setCell ⟨w.heap.size, 3, none⟩ (.slice (some ⟨ga, 0, none⟩) (n + 1) ca) = fab at *
     have fr := Dr.f4
     have fn := Dn.f4
     have fR := R.f
     refine bodyPost_ret (v := ndV ⟨38, false, none, 0, 0, some ⟨ga, 0, none⟩, n + 1, ca⟩) (by simp [results, Tryz.results50, go_sem, fr]; try rfl) rfl ?_
     rw [HTB.out]
     exact ⟨⟨38, false, none, 0, 0, some ⟨ga, 0, none⟩, n + 1, ca⟩, _, _, _, _, _, rfl, R, P, rfl, rfl, hne⟩
    have hxa := pk_byteAt R.txt k1 (by omega)
    obtain ⟨xa, hxxa⟩ : ∃ x, Rx.pk l k1 = x := ⟨_, rfl⟩
    rw [hxxa] at hxa
    have d124a : ((xa : Int) == 124) = false := by rw [beq_eq_false_iff_ne]; omega
    have d41a : ((xa : Int) == 41) = false := by rw [beq_eq_false_iff_ne]; omega
    clear hxxa
    have hqla : (k1 : Int) < (l.length : Int) := by omega
    have hqna : ¬ ((l.length : Int) ≤ (k1 : Int)) := by omega
    have hqma : (0 : Int) ≤ (k1 : Int) := by omega
    have dqa : decide ((l.length : Int) ≤ (k1 : Int)) = false := decide_eq_false hqna
    have dla : decide ((k1 : Int) < (l.length : Int)) = true := decide_eq_true hqla
    have HNa := Lib.hid h124a
    have HMa := Lib.hid h41a
    clear h41a h124a
    go_upto_region 4 with (fail)
    clear fn fR
    have ur1 := Dr.lt
    have un1 := Dn.lt
    have uR1 := R.cells.lt
    have Dk4 := At.nw (w1) [.int .u8 xo, .bool xb, .slice sa sl sc, .slice ka4 kl4 kc4] 55
    obtain ⟨Dr, Dn, R, P⟩ := (fun o => And.intro (Dr.alloc o) (And.intro (Dn.alloc o) (And.intro (R.alloc o) (P.alloc o)))) (.cells #[.int .u8 xo, .bool xb, .slice sa sl sc, .slice ka4 kl4 kc4] 55)
    have X0le := X0.le
    have X0 := (X0.alloc (.cells #[.int .u8 xo, .bool xb, .slice sa sl sc, .slice ka4 kl4 kc4] 55))
    have X2le := X2.le
    have X2 := (X2.alloc (.cells #[.int .u8 xo, .bool xb, .slice sa sl sc, .slice ka4 kl4 kc4] 55))
    have X1le := X1.le
    have X1 := (X1.alloc (.cells #[.int .u8 xo, .bool xb, .slice sa sl sc, .slice ka4 kl4 kc4] 55))
    generalize (w1).alloc (.cells #[.int .u8 xo, .bool xb, .slice sa sl sc, .slice ka4 kl4 kc4] 55) = qao at *
    have fn := Dn.f4
    have fk4 := Dk4.f4
    have fR := R.f
    go_quiet (fail)
    clear fn fk4 fR
    have Dr := (Dr.drewN nq)
    have Dn := (Dn.drewN nq)
    have Dk4 := (Dk4.drewN nq)
    have R := (R.drewN nq)
    have P := (P.drewN nq)
    have X0 := (X0.drewN nq)
    have X2 := (X2.drewN nq)
    have X1 := (X1.drewN nq)
    generalize (qao).drewN nq = pao at *
    have fn := Dn.f4
    have fk4 := Dk4.f4
    have fR := R.f
    have O := O.keep X2.le X2.same
    clear X2
    go_wp2_with (at_builtin; refine wpList_append_own_at _ rfl _ _ 53 rfl bs 55 i0 (.agg #[.int .u8 0, .bool false, .slice none 0 0, .slice none 0 0]) 4 56 Tryz.underlying53 HI.out HZ.out HZ1.out HZ2.out rfl (by decide) _ _ _ rfl (O.own.alloc _) ⟨pao.heap.size, 0, none⟩ 1 1 [.int .u8 xo, .bool xb, .slice sa sl sc, .slice ka4 kl4 kc4] rfl rfl (cells4_new _ _ _ _ _ _) ?j1ao ?j2ao ?j3ao ?j4ao ?_)
    case j1ao => first | (intro u hu; simp at hu; rcases hu with rfl | rfl | rfl | rfl <;> rfl) | exact ⟨rfl, rfl, rfl, rfl⟩
    case j2ao => have h1 := O.few; unfold maxLen; omega
    case j3ao => have h1 := O.few; omega
    case j4ao => (try simp); have h1 := X0.le; omega
    intro v' w1ao hown hgrow _ hor
    obtain ⟨ga, ca, rfl, hgaao, hgbao⟩ := hown.form (by omega)
    clear fn fk4 fR
    have Dr := grown_at hgrow (Dr.alloc (.cells #[.int .u8 xo, .bool xb, .slice sa sl sc, .slice ka4 kl4 kc4] 55)) (fun e2 => by have h1 := (O.lt _ e2).1; have h2 := hown0 _ e2; omega)
    have Dn := grown_at hgrow (Dn.alloc (.cells #[.int .u8 xo, .bool xb, .slice sa sl sc, .slice ka4 kl4 kc4] 55)) (fun e2 => by have h1 := (O.lt _ e2).1; have h2 := hown0 _ e2; omega)
    have Dk4 := grown_at hgrow (Dk4.alloc (.cells #[.int .u8 xo, .bool xb, .slice sa sl sc, .slice ka4 kl4 kc4] 55)) (fun e2 => by have h1 := (O.lt _ e2).1; have h2 := hown0 _ e2; omega)
    have X0 := (X0.alloc (.cells #[.int .u8 xo, .bool xb, .slice sa sl sc, .slice ka4 kl4 kc4] 55)).grown hgrow (fun g e2 => by have h1 := O.lt _ e2; have h2 := hown0 _ e2; omega)
    have X1 := (X1.alloc (.cells #[.int .u8 xo, .bool xb, .slice sa sl sc, .slice ka4 kl4 kc4] 55)).grown hgrow (fun g e2 => by have h1 := O.lt _ e2; have h2 := hown0 _ e2; omega)
    have R := (R.alloc (.cells #[.int .u8 xo, .bool xb, .slice sa sl sc, .slice ka4 kl4 kc4] 55)).grown hgrow (fun e2 => by have h1 := (O.lt _ e2).1; omega)
    have P := (P.alloc (.cells #[.int .u8 xo, .bool xb, .slice sa sl sc, .slice ka4 kl4 kc4] 55)).grown hgrow (fun g e2 => by have h1 := (O.lt _ e2).1; omega)
    clear hown hgrow hor
    have fn := Dn.f4
    have fk4 := Dk4.f4
    have fR := R.f
    go_wp2_with fail
    clear fn fk4 fR
    have Dr := (Dr.far (b' := nb) (j := 3) (by omega) (.slice (some ⟨ga, 0, none⟩) (n + 1) ca))
    have Dn : At ((w1ao).setCell ⟨nb, 3, none⟩ (.slice (some ⟨ga, 0, none⟩) (n + 1) ca)) (nb) [.int .u8 38, .bool false, .slice none 0 0, .slice (some ⟨ga, 0, none⟩) (n + 1) ca] := (Dn.set 3 (.slice (some ⟨ga, 0, none⟩) (n + 1) ca))
    obtain ⟨R, P, X0, X1⟩ := (fun o => And.intro (R.far (c := nb) 3 (by omega) o) (And.intro (P.setCell (p := ⟨nb, 3, none⟩) (.inl (by dsimp only; omega)) o) (And.intro (X0.setCell (p := ⟨nb, 3, none⟩) (by dsimp only; omega) o) (X1.setCell (p := ⟨nb, 3, none⟩) (by dsimp only; omega) o)))) (.slice (some ⟨ga, 0, none⟩) (n + 1) ca)
    generalize (w1ao).setCell ⟨nb, 3, none⟩ (.slice (some ⟨ga, 0, none⟩) (n + 1) ca) = yao at *
    have fn := Dn.f4
    have fR := R.f
    go_quiet (fail)
    clear fn fR
    have Dr := (Dr.drewN nq)
    have Dn := (Dn.drewN nq)
    have R := (R.drewN nq)
    have P := (P.drewN nq)
    have X0 := (X0.drewN nq)
    have X1 := (X1.drewN nq)
    generalize (yao).drewN nq = zao at *
    have fn := Dn.f4
    have fR := R.f
    go_wp2
    have hM2 : paM l b zao = 0 := by rw [paM_at R, if_neg hneI]
    go_roundw
    case rel => exact ⟨[], _, _, _, _, _, _, _, _, Or.inr ⟨er, j, HTB.out, rfl, rfl, hne⟩, R, P, fun e => (hneI e).elim, Dn, Dr, X0.le⟩
    case measure => rw [hM, hM2]; omega
   | ok p i =>
    have hgo := Rx.atom_goes HIN.out hkl
    rw [hS1] at hs1 hgo
    obtain ⟨rfl, rfl, rfl, d2, hnd⟩ := hs1
    obtain ⟨hg1, hg2, -⟩ := hgo
    obtain rfl := R.hk
    have HN := Lib.hid hnd
    have HS1 := Lib.hid hS1
    clear hS1 hnd
    by_cases h42 : Rx.pk l k1 = 42
    ·
     have hlt1 : k1 < l.length := Rx.pk_lt (by omega)
     have hxr := pk_byteAt R.txt k1 (by omega)
     rw [h42] at hxr
     have hqlr : (k1 : Int) < (l.length : Int) := by omega
     have hqnr : ¬ ((l.length : Int) ≤ (k1 : Int)) := by omega
     have hqmr : (0 : Int) ≤ (k1 : Int) := by omega
     have dqr : decide ((l.length : Int) ≤ (k1 : Int)) = false := decide_eq_false hqnr
     have dlr : decide ((k1 : Int) < (l.length : Int)) = true := decide_eq_true hqlr
     have HR := Lib.hid h42
     clear h42
     have hir : k1 < s.size := by omega
     go_upto_region 4 with (fail)
     clear fn fR
     have ur1 := Dr.lt
     have un1 := Dn.lt
     have uR1 := R.cells.lt
     have Dk4 := At.nw (w1) [.int .u8 xo, .bool xb, .slice sa sl sc, .slice ka4 kl4 kc4] 55
     obtain ⟨Dr, Dn, R, P⟩ := (fun o => And.intro (Dr.alloc o) (And.intro (Dn.alloc o) (And.intro (R.alloc o) (P.alloc o)))) (.cells #[.int .u8 xo, .bool xb, .slice sa sl sc, .slice ka4 kl4 kc4] 55)
     have X0le := X0.le
     have X0 := (X0.alloc (.cells #[.int .u8 xo, .bool xb, .slice sa sl sc, .slice ka4 kl4 kc4] 55))
     have X2le := X2.le
     have X2 := (X2.alloc (.cells #[.int .u8 xo, .bool xb, .slice sa sl sc, .slice ka4 kl4 kc4] 55))
     have X1le := X1.le
     have X1 := (X1.alloc (.cells #[.int .u8 xo, .bool xb, .slice sa sl sc, .slice ka4 kl4 kc4] 55))
     generalize (w1).alloc (.cells #[.int .u8 xo, .bool xb, .slice sa sl sc, .slice ka4 kl4 kc4] 55) = qstar at *
     have fn := Dn.f4
     have fk4 := Dk4.f4
     have fR := R.f
     go_quiet (fail)
     clear fn fk4 fR
     have Dr := (Dr.drewN nq)
     have Dn := (Dn.drewN nq)
     have Dk4 := (Dk4.drewN nq)
     have R := (R.drewN nq)
     have P := (P.drewN nq)
     have X0 := (X0.drewN nq)
     have X2 := (X2.drewN nq)
     have X1 := (X1.drewN nq)
     generalize (qstar).drewN nq = pstar at *
     have fn := Dn.f4
     have fk4 := Dk4.f4
     have fR := R.f
     go_wp2_with fail
     have hX1q := X1.le
     clear fn fk4 fR
     have Dr : At ((pstar).drew) (w.heap.size) [.int .u8 0, .bool false, .slice none 0 0, .slice none 0 0] := Dr.drew
     have Dn : At ((pstar).drew) (nb) [.int .u8 38, .bool false, .slice none 0 0, .slice ka n kc] := Dn.drew
     have Dk4 : At ((pstar).drew) (w1.heap.size) [.int .u8 xo, .bool xb, .slice sa sl sc, .slice ka4 kl4 kc4] := Dk4.drew
     have R := R.drew
     have P := P.drew
     have X0 := X0.drew
     have X2 := X2.drew
     have X1 := X1.drew
     refine wp_region_held_drew (S := fun u => At u b [.string s, .int .i64 ((k1 : Int)), .int .i64 (dz2), .int .i64 (0), .int .i64 (0)]) (by kernel_rfl) ?_ (fun hS => ?_)
     ·
      exact R.cells
     generalize (pstar).drew = v1 at *
     refine tkH 0 hS ?_
     refine tkH 1 hS ?_
     refine tkH 2 hS ?_
     refine tkC 3 hS (fun _ h => h.f5) ?_
     refine tkH 4 hS ?_
     refine tkH 5 hS ?_
     refine tkH 6 hS ?_
     refine tkC 7 hS (fun _ h => h.f5) ?_
     refine tkH 8 hS ?_
     refine wpAnyH_ready (rs := [9]) (by kernel_rfl) (by simp) ?_
     refine' AllReadyH.cons (o := ?oor10) ?hor10 (fun K hK => ?str10) AllReadyH.nil
     case hor10 =>
      simp only [qa, qb, qc]
      exact rfl
     have fn := Dn.f4
     have fk4 := Dk4.f4
     have fR := R.f
     go_simp
     clear fn fk4 fR
     refine hK.out _ _ ?_ (fun hS => ?_)
     · exact R.cells
     clear hK K
     (try simp only [Act.put, qd, qe, qf])
     refine wpAnyH_ready (rs := [10]) (by kernel_rfl) (by simp) ?_
     refine' AllReadyH.cons (o := ?oor11) ?hor11 (fun K hK => ?str11) AllReadyH.nil
     case hor11 =>
      simp only [qa, qb, qc]
      exact rfl
     have fn := Dn.f4
     have fk4 := Dk4.f4
     have fR := R.f
     go_simp
     clear fn fk4 fR
     have ur2 := Dr.lt
     have un2 := Dn.lt
     have uk42 := Dk4.lt
     have uR2 := R.cells.lt
     have De5 := At.nw (v1) [.int .u8 xo, .bool xb, .slice sa sl sc, .slice ka4 kl4 kc4] 55
     obtain ⟨Dr, Dn, Dk4, R, P⟩ := (fun o => And.intro (Dr.alloc o) (And.intro (Dn.alloc o) (And.intro (Dk4.alloc o) (And.intro (R.alloc o) (P.alloc o))))) (.cells #[.int .u8 xo, .bool xb, .slice sa sl sc, .slice ka4 kl4 kc4] 55)
     have X0le := X0.le
     have X0 := (X0.alloc (.cells #[.int .u8 xo, .bool xb, .slice sa sl sc, .slice ka4 kl4 kc4] 55))
     have X2le := X2.le
     have X2 := (X2.alloc (.cells #[.int .u8 xo, .bool xb, .slice sa sl sc, .slice ka4 kl4 kc4] 55))
     have X1le := X1.le
     have X1 := (X1.alloc (.cells #[.int .u8 xo, .bool xb, .slice sa sl sc, .slice ka4 kl4 kc4] 55))
     refine hK.out _ _ ?_ (fun hS => ?_)
     · exact R.cells
     generalize (v1).alloc (.cells #[.int .u8 xo, .bool xb, .slice sa sl sc, .slice ka4 kl4 kc4] 55) = u12x at *
     clear hK K
     (try simp only [Act.put, qd, qe, qf])
     refine tkH 11 hS ?_
     refine wpAnyH_ready (rs := [12]) (by kernel_rfl) (by simp) ?_
     refine' AllReadyH.cons (o := ?oor13) ?hor13 (fun K hK => ?str13) AllReadyH.nil
     case hor13 =>
      simp only [qa, qb, qc]
      exact rfl
     have fn := Dn.f4
     have fk4 := Dk4.f4
     have fR := R.f
     go_simp
     clear fn fk4 fR
     obtain ⟨Dr, Dn, Dk4, De5, R, P, X0, X2, X1⟩ := (fun o0 o1 o2 o3 => And.intro (Dr.fars4 (w1.heap.size) (by omega) o0 o1 o2 o3) (And.intro (Dn.fars4 (w1.heap.size) (by omega) o0 o1 o2 o3) (And.intro (Dk4.puts4 o0 o1 o2 o3) (And.intro (De5.fars4 (w1.heap.size) (by omega) o0 o1 o2 o3) (And.intro (R.fars4 (w1.heap.size) (by omega) o0 o1 o2 o3) (And.intro (P.sets4 (w1.heap.size) (by omega) o0 o1 o2 o3) (And.intro (X0.sets4 (w1.heap.size) (by omega) o0 o1 o2 o3) (And.intro (X2.sets4 (w1.heap.size) (by omega) o0 o1 o2 o3) (X1.sets4 (w1.heap.size) (by omega) o0 o1 o2 o3))))))))) (.int .u8 42) (.bool false) (.slice none 0 0) (.slice (some ⟨v1.heap.size, 0, none⟩) 1 1)
     refine hK.out _ _ ?_ (fun hS => ?_)
     · exact R.cells
     generalize ((((u12x).setCell ⟨w1.heap.size, 0, none⟩ (.int .u8 42)).setCell ⟨w1.heap.size, 1, none⟩ (.bool false)).setCell ⟨w1.heap.size, 2, none⟩ (.slice none 0 0)).setCell ⟨w1.heap.size, 3, none⟩ (.slice (some ⟨v1.heap.size, 0, none⟩) 1 1) = u13x at *
     clear hK K
     (try simp only [Act.put, qd, qe, qf])
     refine wpAnyH_done (by kernel_rfl) ?_ _
     clear hS
     have fn := Dn.f4
     have fk4 := Dk4.f4
     have fR := R.f
     go_upto_region 7 with (fail)
     clear fn fk4 fR
     obtain ⟨Dr, Dn, Dk4, De5⟩ := (fun o => And.intro (Dr.far (b' := b) (j := 1) (by omega) o) (And.intro (Dn.far (b' := b) (j := 1) (by omega) o) (And.intro (Dk4.far (b' := b) (j := 1) (by omega) o) (De5.far (b' := b) (j := 1) (by omega) o)))) (.int .i64 ((k1 : Int) + 1))
     have R := (R.move (z' := (k1 : Int) + 1) (k' := k1 + 1) (by omega) (by omega))
     obtain ⟨P, X0, X2, X1⟩ := (fun o => And.intro (P.setCell (p := ⟨b, 1, none⟩) (.inr rfl) o) (And.intro (X0.setCell (p := ⟨b, 1, none⟩) (by dsimp only; omega) o) (And.intro (X2.setCell (p := ⟨b, 1, none⟩) (by dsimp only; omega) o) (X1.setCell (p := ⟨b, 1, none⟩) (by dsimp only; omega) o)))) (.int .i64 ((k1 : Int) + 1))
     generalize (u13x).setCell ⟨b, 1, none⟩ (.int .i64 ((k1 : Int) + 1)) = mstar at *
     have fn := Dn.f4
     have fk4 := Dk4.f4
     have fR := R.f
     by_cases hqt : l.length ≤ (k1 + 1)
     ·
      have dqt : decide ((l.length : Int) ≤ ((k1 + 1) : Int)) = true := decide_eq_true (by omega)
      have dlt : decide (((k1 + 1) : Int) < (l.length : Int)) = false := decide_eq_false (by omega)
      have dmt : decide ((k1 + 1) < l.length) = false := decide_eq_false (by omega)
      have dot : decide (l.length ≤ (k1 + 1)) = true := decide_eq_true (by omega)
      have O := O.keep X2.le X2.same
      clear X2
      go_wp2_with (at_builtin; refine wpList_append_own_at _ rfl _ _ 53 rfl bs 55 i0 (.agg #[.int .u8 0, .bool false, .slice none 0 0, .slice none 0 0]) 4 56 Tryz.underlying53 HI.out HZ.out HZ1.out HZ2.out rfl (by decide) _ _ _ rfl (O.own.alloc _) ⟨mstar.heap.size, 0, none⟩ 1 1 [.int .u8 42, .bool false, .slice none 0 0, .slice (some ⟨v1.heap.size, 0, none⟩) 1 1] rfl rfl (cells4_new _ _ _ _ _ _) ?j1stare ?j2stare ?j3stare ?j4stare ?_)
      case j1stare => first | (intro u hu; simp at hu; rcases hu with rfl | rfl | rfl | rfl <;> rfl) | exact ⟨rfl, rfl, rfl, rfl⟩
      case j2stare => have h1 := O.few; unfold maxLen; omega
      case j3stare => have h1 := O.few; omega
      case j4stare => (try simp); have h1 := X0.le; omega
      intro v' w1stare hown hgrow _ hor
      obtain ⟨ga, ca, rfl, hgastare, hgbstare⟩ := hown.form (by omega)
      clear fn fk4 fR
      have hy := HN.out.keep (S' := fun x => bs ≤ x ∧ x < (mstar.alloc (.cells #[.int .u8 42, .bool false, .slice none 0 0, .slice (some ⟨v1.heap.size, 0, none⟩) 1 1] 55)).heap.size ∧ (Value.slice ka n kc).ownBlock ≠ some x) (w' := mstar.alloc (.cells #[.int .u8 42, .bool false, .slice none 0 0, .slice (some ⟨v1.heap.size, 0, none⟩) 1 1] 55)) (fun g hg => ⟨Nat.le_trans hble hg.1, Nat.lt_of_lt_of_le hg.2 (X1.alloc (.cells #[.int .u8 42, .bool false, .slice none 0 0, .slice (some ⟨v1.heap.size, 0, none⟩) 1 1] 55)).le, fun e2 => by have h1 := hown0 g e2; have h2 := hg.1; omega⟩) (fun g hg => (X1.alloc (.cells #[.int .u8 42, .bool false, .slice none 0 0, .slice (some ⟨v1.heap.size, 0, none⟩) 1 1] 55)).same g hg.1 hg.2)
      have hy5 : NodeIs (fun x => bs ≤ x ∧ x < (mstar.alloc (.cells #[.int .u8 42, .bool false, .slice none 0 0, .slice (some ⟨v1.heap.size, 0, none⟩) 1 1] 55)).heap.size ∧ (Value.slice ka n kc).ownBlock ≠ some x) (mstar.alloc (.cells #[.int .u8 42, .bool false, .slice none 0 0, .slice (some ⟨v1.heap.size, 0, none⟩) 1 1] 55)) (d2 + 1) ⟨42, false, none, 0, 0, some ⟨v1.heap.size, 0, none⟩, 1, 1⟩ (.star p) :=
       Or.inr (Or.inr (Or.inr ⟨p, v1.heap.size, Or.inl ⟨rfl, rfl⟩, rfl, rfl, ⟨by omega, by have h1 := De5.lt; simp; omega, fun e2 => by have h1 := hown0 _ e2; omega⟩, ⟨xo, xb, sa, sl, sc, ka4, kl4, kc4⟩, hy, fun i v hv => (De5.alloc (.cells #[.int .u8 42, .bool false, .slice none 0 0, .slice (some ⟨v1.heap.size, 0, none⟩) 1 1] 55)).cell i v hv⟩))
      have Dr := grown_at hgrow (Dr.alloc (.cells #[.int .u8 42, .bool false, .slice none 0 0, .slice (some ⟨v1.heap.size, 0, none⟩) 1 1] 55)) (fun e2 => by have h1 := (O.lt _ e2).1; have h2 := hown0 _ e2; omega)
      have Dn := grown_at hgrow (Dn.alloc (.cells #[.int .u8 42, .bool false, .slice none 0 0, .slice (some ⟨v1.heap.size, 0, none⟩) 1 1] 55)) (fun e2 => by have h1 := (O.lt _ e2).1; have h2 := hown0 _ e2; omega)
      have Dk4 := grown_at hgrow (Dk4.alloc (.cells #[.int .u8 42, .bool false, .slice none 0 0, .slice (some ⟨v1.heap.size, 0, none⟩) 1 1] 55)) (fun e2 => by have h1 := (O.lt _ e2).1; have h2 := hown0 _ e2; omega)
      have De5 := grown_at hgrow (De5.alloc (.cells #[.int .u8 42, .bool false, .slice none 0 0, .slice (some ⟨v1.heap.size, 0, none⟩) 1 1] 55)) (fun e2 => by have h1 := (O.lt _ e2).1; have h2 := hown0 _ e2; omega)
      have X0 := (X0.alloc (.cells #[.int .u8 42, .bool false, .slice none 0 0, .slice (some ⟨v1.heap.size, 0, none⟩) 1 1] 55)).grown hgrow (fun g e2 => by have h1 := O.lt _ e2; have h2 := hown0 _ e2; omega)
      have X1 := (X1.alloc (.cells #[.int .u8 42, .bool false, .slice none 0 0, .slice (some ⟨v1.heap.size, 0, none⟩) 1 1] 55)).grown hgrow (fun g e2 => by have h1 := O.lt _ e2; have h2 := hown0 _ e2; omega)
      have R := (R.alloc (.cells #[.int .u8 42, .bool false, .slice none 0 0, .slice (some ⟨v1.heap.size, 0, none⟩) 1 1] 55)).grown hgrow (fun e2 => by have h1 := (O.lt _ e2).1; omega)
      have P := (P.alloc (.cells #[.int .u8 42, .bool false, .slice none 0 0, .slice (some ⟨v1.heap.size, 0, none⟩) 1 1] 55)).grown hgrow (fun g e2 => by have h1 := (O.lt _ e2).1; omega)
      have O := (O.alloc (.cells #[.int .u8 42, .bool false, .slice none 0 0, .slice (some ⟨v1.heap.size, 0, none⟩) 1 1] 55)).snoc (y := ⟨42, false, none, 0, 0, some ⟨v1.heap.size, 0, none⟩, 1, 1⟩) hown hgrow (hor.imp id (fun e => ⟨_, e, by simp⟩)) hy5 (by omega)
      clear hown hgrow hor
      have fn := Dn.f4
      have fk4 := Dk4.f4
      have fR := R.f
      go_wp2_with fail
      clear fn fk4 fR
      have Dr := (Dr.far (b' := nb) (j := 3) (by omega) (.slice (some ⟨ga, 0, none⟩) (n + 1) ca))
      have Dn : At ((w1stare).setCell ⟨nb, 3, none⟩ (.slice (some ⟨ga, 0, none⟩) (n + 1) ca)) (nb) [.int .u8 38, .bool false, .slice none 0 0, .slice (some ⟨ga, 0, none⟩) (n + 1) ca] := (Dn.set 3 (.slice (some ⟨ga, 0, none⟩) (n + 1) ca))
      obtain ⟨R, P, O, X0, X1⟩ := (fun o => And.intro (R.far (c := nb) 3 (by omega) o) (And.intro (P.setCell (p := ⟨nb, 3, none⟩) (.inl (by dsimp only; omega)) o) (And.intro (O.setCell (p := ⟨nb, 3, none⟩) (by dsimp only; omega) o) (And.intro (X0.setCell (p := ⟨nb, 3, none⟩) (by dsimp only; omega) o) (X1.setCell (p := ⟨nb, 3, none⟩) (by dsimp only; omega) o))))) (.slice (some ⟨ga, 0, none⟩) (n + 1) ca)
      generalize (w1stare).setCell ⟨nb, 3, none⟩ (.slice (some ⟨ga, 0, none⟩) (n + 1) ca) = ystare at *
      have fn := Dn.f4
      have fR := R.f
      go_quiet (fail)
      clear fn fR
      have Dr := (Dr.drewN nq)
      have Dn := (Dn.drewN nq)
      have R := (R.drewN nq)
      have P := (P.drewN nq)
      have O := (O.drewN nq)
      have X0 := (X0.drewN nq)
      have X1 := (X1.drewN nq)
      generalize (ystare).drewN nq = zstare at *
      have fr := Dr.f4
      have fn := Dn.f4
      have fR := R.f
      go_upto_region 9 with (fail)
      repeat go_step
      clear fr fn fR
      obtain ⟨Dr, Dn, R, P, O, X0, X1⟩ := (fun o0 o1 o2 o3 => And.intro (Dr.puts4 o0 o1 o2 o3) (And.intro (Dn.fars4 (w.heap.size) (by omega) o0 o1 o2 o3) (And.intro (R.fars4 (w.heap.size) (by omega) o0 o1 o2 o3) (And.intro (P.sets4 (w.heap.size) (by omega) o0 o1 o2 o3) (And.intro (O.sets4 (w.heap.size) (by omega) o0 o1 o2 o3) (And.intro (X0.sets4 (w.heap.size) (by omega) o0 o1 o2 o3) (X1.sets4 (w.heap.size) (by omega) o0 o1 o2 o3))))))) (.int .u8 38) (.bool false) (.slice none 0 0) (.slice (some ⟨ga, 0, none⟩) (n + 1) ca)
      generalize ((((zstare).setCell ⟨w.heap.size, 0, none⟩ (.int .u8 38)).setCell ⟨w.heap.size, 1, none⟩ (.bool false)).setCell ⟨w.heap.size, 2, none⟩ (.slice none 0 0)).setCell ⟨w.heap.size, 3, none⟩ (.slice (some ⟨ga, 0, none⟩) (n + 1) ca) = fstare at *
      have fr := Dr.f4
      have fn := Dn.f4
      have fR := R.f
      refine bodyPost_ret (v := ndV ⟨38, false, none, 0, 0, some ⟨ga, 0, none⟩, n + 1, ca⟩) (by simp [results, Tryz.results50, go_sem, fr]; try rfl) rfl ?_
      have hTe := ro_end HST.out (part_star HS1.out HR.out) (Or.inl hqt)
      have hnode := O.node (by omega) (by omega) (S := Rng w fstare) (fun x hx => ⟨by have := hx.1; omega, hx.2⟩) (o := 38) (p := (ps ++ [(Rx.Pt.star p)]).foldl .seq .eps) (Or.inr ⟨rfl, rfl⟩)
      rw [hTe]
      exact ⟨⟨38, false, none, 0, 0, some ⟨ga, 0, none⟩, n + 1, ca⟩, _, _, _, _, _, rfl, R, P, rfl, rfl, rfl, _, hnode⟩
     by_cases h124t : Rx.pk l (k1 + 1) = 124
     ·
      have hxt := pk_byteAt R.txt (k1 + 1) (by omega)
      rw [h124t] at hxt
      have hqlt : ((k1 + 1) : Int) < (l.length : Int) := by omega
      have hqnt : ¬ ((l.length : Int) ≤ ((k1 + 1) : Int)) := by omega
      have hqmt : (0 : Int) ≤ ((k1 + 1) : Int) := by omega
      have dqt : decide ((l.length : Int) ≤ ((k1 + 1) : Int)) = false := decide_eq_false hqnt
      have dlt : decide (((k1 + 1) : Int) < (l.length : Int)) = true := decide_eq_true hqlt
      have HEt := Lib.hid h124t
      clear h124t
      have O := O.keep X2.le X2.same
      clear X2
      go_wp2_with (at_builtin; refine wpList_append_own_at _ rfl _ _ 53 rfl bs 55 i0 (.agg #[.int .u8 0, .bool false, .slice none 0 0, .slice none 0 0]) 4 56 Tryz.underlying53 HI.out HZ.out HZ1.out HZ2.out rfl (by decide) _ _ _ rfl (O.own.alloc _) ⟨mstar.heap.size, 0, none⟩ 1 1 [.int .u8 42, .bool false, .slice none 0 0, .slice (some ⟨v1.heap.size, 0, none⟩) 1 1] rfl rfl (cells4_new _ _ _ _ _ _) ?j1stars ?j2stars ?j3stars ?j4stars ?_)
      case j1stars => first | (intro u hu; simp at hu; rcases hu with rfl | rfl | rfl | rfl <;> rfl) | exact ⟨rfl, rfl, rfl, rfl⟩
      case j2stars => have h1 := O.few; unfold maxLen; omega
      case j3stars => have h1 := O.few; omega
      case j4stars => (try simp); have h1 := X0.le; omega
      intro v' w1stars hown hgrow _ hor
      obtain ⟨ga, ca, rfl, hgastars, hgbstars⟩ := hown.form (by omega)
      clear fn fk4 fR
      have hy := HN.out.keep (S' := fun x => bs ≤ x ∧ x < (mstar.alloc (.cells #[.int .u8 42, .bool false, .slice none 0 0, .slice (some ⟨v1.heap.size, 0, none⟩) 1 1] 55)).heap.size ∧ (Value.slice ka n kc).ownBlock ≠ some x) (w' := mstar.alloc (.cells #[.int .u8 42, .bool false, .slice none 0 0, .slice (some ⟨v1.heap.size, 0, none⟩) 1 1] 55)) (fun g hg => ⟨Nat.le_trans hble hg.1, Nat.lt_of_lt_of_le hg.2 (X1.alloc (.cells #[.int .u8 42, .bool false, .slice none 0 0, .slice (some ⟨v1.heap.size, 0, none⟩) 1 1] 55)).le, fun e2 => by have h1 := hown0 g e2; have h2 := hg.1; omega⟩) (fun g hg => (X1.alloc (.cells #[.int .u8 42, .bool false, .slice none 0 0, .slice (some ⟨v1.heap.size, 0, none⟩) 1 1] 55)).same g hg.1 hg.2)
      have hy5 : NodeIs (fun x => bs ≤ x ∧ x < (mstar.alloc (.cells #[.int .u8 42, .bool false, .slice none 0 0, .slice (some ⟨v1.heap.size, 0, none⟩) 1 1] 55)).heap.size ∧ (Value.slice ka n kc).ownBlock ≠ some x) (mstar.alloc (.cells #[.int .u8 42, .bool false, .slice none 0 0, .slice (some ⟨v1.heap.size, 0, none⟩) 1 1] 55)) (d2 + 1) ⟨42, false, none, 0, 0, some ⟨v1.heap.size, 0, none⟩, 1, 1⟩ (.star p) :=
       Or.inr (Or.inr (Or.inr ⟨p, v1.heap.size, Or.inl ⟨rfl, rfl⟩, rfl, rfl, ⟨by omega, by have h1 := De5.lt; simp; omega, fun e2 => by have h1 := hown0 _ e2; omega⟩, ⟨xo, xb, sa, sl, sc, ka4, kl4, kc4⟩, hy, fun i v hv => (De5.alloc (.cells #[.int .u8 42, .bool false, .slice none 0 0, .slice (some ⟨v1.heap.size, 0, none⟩) 1 1] 55)).cell i v hv⟩))
      have Dr := grown_at hgrow (Dr.alloc (.cells #[.int .u8 42, .bool false, .slice none 0 0, .slice (some ⟨v1.heap.size, 0, none⟩) 1 1] 55)) (fun e2 => by have h1 := (O.lt _ e2).1; have h2 := hown0 _ e2; omega)
      have Dn := grown_at hgrow (Dn.alloc (.cells #[.int .u8 42, .bool false, .slice none 0 0, .slice (some ⟨v1.heap.size, 0, none⟩) 1 1] 55)) (fun e2 => by have h1 := (O.lt _ e2).1; have h2 := hown0 _ e2; omega)
      have Dk4 := grown_at hgrow (Dk4.alloc (.cells #[.int .u8 42, .bool false, .slice none 0 0, .slice (some ⟨v1.heap.size, 0, none⟩) 1 1] 55)) (fun e2 => by have h1 := (O.lt _ e2).1; have h2 := hown0 _ e2; omega)
      have De5 := grown_at hgrow (De5.alloc (.cells #[.int .u8 42, .bool false, .slice none 0 0, .slice (some ⟨v1.heap.size, 0, none⟩) 1 1] 55)) (fun e2 => by have h1 := (O.lt _ e2).1; have h2 := hown0 _ e2; omega)
      have X0 := (X0.alloc (.cells #[.int .u8 42, .bool false, .slice none 0 0, .slice (some ⟨v1.heap.size, 0, none⟩) 1 1] 55)).grown hgrow (fun g e2 => by have h1 := O.lt _ e2; have h2 := hown0 _ e2; omega)
      have X1 := (X1.alloc (.cells #[.int .u8 42, .bool false, .slice none 0 0, .slice (some ⟨v1.heap.size, 0, none⟩) 1 1] 55)).grown hgrow (fun g e2 => by have h1 := O.lt _ e2; have h2 := hown0 _ e2; omega)
      have R := (R.alloc (.cells #[.int .u8 42, .bool false, .slice none 0 0, .slice (some ⟨v1.heap.size, 0, none⟩) 1 1] 55)).grown hgrow (fun e2 => by have h1 := (O.lt _ e2).1; omega)
      have P := (P.alloc (.cells #[.int .u8 42, .bool false, .slice none 0 0, .slice (some ⟨v1.heap.size, 0, none⟩) 1 1] 55)).grown hgrow (fun g e2 => by have h1 := (O.lt _ e2).1; omega)
      have O := (O.alloc (.cells #[.int .u8 42, .bool false, .slice none 0 0, .slice (some ⟨v1.heap.size, 0, none⟩) 1 1] 55)).snoc (y := ⟨42, false, none, 0, 0, some ⟨v1.heap.size, 0, none⟩, 1, 1⟩) hown hgrow (hor.imp id (fun e => ⟨_, e, by simp⟩)) hy5 (by omega)
      clear hown hgrow hor
      have fn := Dn.f4
      have fk4 := Dk4.f4
      have fR := R.f
      go_wp2_with fail
      clear fn fk4 fR
      have Dr := (Dr.far (b' := nb) (j := 3) (by omega) (.slice (some ⟨ga, 0, none⟩) (n + 1) ca))
      have Dn : At ((w1stars).setCell ⟨nb, 3, none⟩ (.slice (some ⟨ga, 0, none⟩) (n + 1) ca)) (nb) [.int .u8 38, .bool false, .slice none 0 0, .slice (some ⟨ga, 0, none⟩) (n + 1) ca] := (Dn.set 3 (.slice (some ⟨ga, 0, none⟩) (n + 1) ca))
      obtain ⟨R, P, O, X0, X1⟩ := (fun o => And.intro (R.far (c := nb) 3 (by omega) o) (And.intro (P.setCell (p := ⟨nb, 3, none⟩) (.inl (by dsimp only; omega)) o) (And.intro (O.setCell (p := ⟨nb, 3, none⟩) (by dsimp only; omega) o) (And.intro (X0.setCell (p := ⟨nb, 3, none⟩) (by dsimp only; omega) o) (X1.setCell (p := ⟨nb, 3, none⟩) (by dsimp only; omega) o))))) (.slice (some ⟨ga, 0, none⟩) (n + 1) ca)
      generalize (w1stars).setCell ⟨nb, 3, none⟩ (.slice (some ⟨ga, 0, none⟩) (n + 1) ca) = ystars at *
      have fn := Dn.f4
      have fR := R.f
      go_quiet (fail)
      clear fn fR
      have Dr := (Dr.drewN nq)
      have Dn := (Dn.drewN nq)
      have R := (R.drewN nq)
      have P := (P.drewN nq)
      have O := (O.drewN nq)
      have X0 := (X0.drewN nq)
      have X1 := (X1.drewN nq)
      generalize (ystars).drewN nq = zstars at *
      have fr := Dr.f4
      have fn := Dn.f4
      have fR := R.f
      go_upto_region 9 with (fail)
      repeat go_step
      clear fr fn fR
      obtain ⟨Dr, Dn, R, P, O, X0, X1⟩ := (fun o0 o1 o2 o3 => And.intro (Dr.puts4 o0 o1 o2 o3) (And.intro (Dn.fars4 (w.heap.size) (by omega) o0 o1 o2 o3) (And.intro (R.fars4 (w.heap.size) (by omega) o0 o1 o2 o3) (And.intro (P.sets4 (w.heap.size) (by omega) o0 o1 o2 o3) (And.intro (O.sets4 (w.heap.size) (by omega) o0 o1 o2 o3) (And.intro (X0.sets4 (w.heap.size) (by omega) o0 o1 o2 o3) (X1.sets4 (w.heap.size) (by omega) o0 o1 o2 o3))))))) (.int .u8 38) (.bool false) (.slice none 0 0) (.slice (some ⟨ga, 0, none⟩) (n + 1) ca)
      generalize ((((zstars).setCell ⟨w.heap.size, 0, none⟩ (.int .u8 38)).setCell ⟨w.heap.size, 1, none⟩ (.bool false)).setCell ⟨w.heap.size, 2, none⟩ (.slice none 0 0)).setCell ⟨w.heap.size, 3, none⟩ (.slice (some ⟨ga, 0, none⟩) (n + 1) ca) = fstars at *
      have fr := Dr.f4
      have fn := Dn.f4
      have fR := R.f
      refine bodyPost_ret (v := ndV ⟨38, false, none, 0, 0, some ⟨ga, 0, none⟩, n + 1, ca⟩) (by simp [results, Tryz.results50, go_sem, fr]; try rfl) rfl ?_
      have hTe := ro_end HST.out (part_star HS1.out HR.out) (Or.inr (Or.inl HEt.out))
      have hnode := O.node (by omega) (by omega) (S := Rng w fstars) (fun x hx => ⟨by have := hx.1; omega, hx.2⟩) (o := 38) (p := (ps ++ [(Rx.Pt.star p)]).foldl .seq .eps) (Or.inr ⟨rfl, rfl⟩)
      rw [hTe]
      exact ⟨⟨38, false, none, 0, 0, some ⟨ga, 0, none⟩, n + 1, ca⟩, _, _, _, _, _, rfl, R, P, rfl, rfl, rfl, _, hnode⟩
     by_cases h41t : Rx.pk l (k1 + 1) = 41
     ·
      have hxt := pk_byteAt R.txt (k1 + 1) (by omega)
      rw [h41t] at hxt
      have hqlt : ((k1 + 1) : Int) < (l.length : Int) := by omega
      have hqnt : ¬ ((l.length : Int) ≤ ((k1 + 1) : Int)) := by omega
      have hqmt : (0 : Int) ≤ ((k1 + 1) : Int) := by omega
      have dqt : decide ((l.length : Int) ≤ ((k1 + 1) : Int)) = false := decide_eq_false hqnt
      have dlt : decide (((k1 + 1) : Int) < (l.length : Int)) = true := decide_eq_true hqlt
      have HEt := Lib.hid h41t
      have HNt := Lib.hid h124t
      clear h41t h124t
      have O := O.keep X2.le X2.same
      clear X2
      go_wp2_with (at_builtin; refine wpList_append_own_at _ rfl _ _ 53 rfl bs 55 i0 (.agg #[.int .u8 0, .bool false, .slice none 0 0, .slice none 0 0]) 4 56 Tryz.underlying53 HI.out HZ.out HZ1.out HZ2.out rfl (by decide) _ _ _ rfl (O.own.alloc _) ⟨mstar.heap.size, 0, none⟩ 1 1 [.int .u8 42, .bool false, .slice none 0 0, .slice (some ⟨v1.heap.size, 0, none⟩) 1 1] rfl rfl (cells4_new _ _ _ _ _ _) ?j1starb ?j2starb ?j3starb ?j4starb ?_)
      case j1starb => first | (intro u hu; simp at hu; rcases hu with rfl | rfl | rfl | rfl <;> rfl) | exact ⟨rfl, rfl, rfl, rfl⟩
      case j2starb => have h1 := O.few; unfold maxLen; omega
      case j3starb => have h1 := O.few; omega
      case j4starb => (try simp); have h1 := X0.le; omega
      intro v' w1starb hown hgrow _ hor
      obtain ⟨ga, ca, rfl, hgastarb, hgbstarb⟩ := hown.form (by omega)
      clear fn fk4 fR
      have hy := HN.out.keep (S' := fun x => bs ≤ x ∧ x < (mstar.alloc (.cells #[.int .u8 42, .bool false, .slice none 0 0, .slice (some ⟨v1.heap.size, 0, none⟩) 1 1] 55)).heap.size ∧ (Value.slice ka n kc).ownBlock ≠ some x) (w' := mstar.alloc (.cells #[.int .u8 42, .bool false, .slice none 0 0, .slice (some ⟨v1.heap.size, 0, none⟩) 1 1] 55)) (fun g hg => ⟨Nat.le_trans hble hg.1, Nat.lt_of_lt_of_le hg.2 (X1.alloc (.cells #[.int .u8 42, .bool false, .slice none 0 0, .slice (some ⟨v1.heap.size, 0, none⟩) 1 1] 55)).le, fun e2 => by have h1 := hown0 g e2; have h2 := hg.1; omega⟩) (fun g hg => (X1.alloc (.cells #[.int .u8 42, .bool false, .slice none 0 0, .slice (some ⟨v1.heap.size, 0, none⟩) 1 1] 55)).same g hg.1 hg.2)
      have hy5 : NodeIs (fun x => bs ≤ x ∧ x < (mstar.alloc (.cells #[.int .u8 42, .bool false, .slice none 0 0, .slice (some ⟨v1.heap.size, 0, none⟩) 1 1] 55)).heap.size ∧ (Value.slice ka n kc).ownBlock ≠ some x) (mstar.alloc (.cells #[.int .u8 42, .bool false, .slice none 0 0, .slice (some ⟨v1.heap.size, 0, none⟩) 1 1] 55)) (d2 + 1) ⟨42, false, none, 0, 0, some ⟨v1.heap.size, 0, none⟩, 1, 1⟩ (.star p) :=
       Or.inr (Or.inr (Or.inr ⟨p, v1.heap.size, Or.inl ⟨rfl, rfl⟩, rfl, rfl, ⟨by omega, by have h1 := De5.lt; simp; omega, fun e2 => by have h1 := hown0 _ e2; omega⟩, ⟨xo, xb, sa, sl, sc, ka4, kl4, kc4⟩, hy, fun i v hv => (De5.alloc (.cells #[.int .u8 42, .bool false, .slice none 0 0, .slice (some ⟨v1.heap.size, 0, none⟩) 1 1] 55)).cell i v hv⟩))
      have Dr := grown_at hgrow (Dr.alloc (.cells #[.int .u8 42, .bool false, .slice none 0 0, .slice (some ⟨v1.heap.size, 0, none⟩) 1 1] 55)) (fun e2 => by have h1 := (O.lt _ e2).1; have h2 := hown0 _ e2; omega)
      have Dn := grown_at hgrow (Dn.alloc (.cells #[.int .u8 42, .bool false, .slice none 0 0, .slice (some ⟨v1.heap.size, 0, none⟩) 1 1] 55)) (fun e2 => by have h1 := (O.lt _ e2).1; have h2 := hown0 _ e2; omega)
      have Dk4 := grown_at hgrow (Dk4.alloc (.cells #[.int .u8 42, .bool false, .slice none 0 0, .slice (some ⟨v1.heap.size, 0, none⟩) 1 1] 55)) (fun e2 => by have h1 := (O.lt _ e2).1; have h2 := hown0 _ e2; omega)
      have De5 := grown_at hgrow (De5.alloc (.cells #[.int .u8 42, .bool false, .slice none 0 0, .slice (some ⟨v1.heap.size, 0, none⟩) 1 1] 55)) (fun e2 => by have h1 := (O.lt _ e2).1; have h2 := hown0 _ e2; omega)
      have X0 := (X0.alloc (.cells #[.int .u8 42, .bool false, .slice none 0 0, .slice (some ⟨v1.heap.size, 0, none⟩) 1 1] 55)).grown hgrow (fun g e2 => by have h1 := O.lt _ e2; have h2 := hown0 _ e2; omega)
      have X1 := (X1.alloc (.cells #[.int .u8 42, .bool false, .slice none 0 0, .slice (some ⟨v1.heap.size, 0, none⟩) 1 1] 55)).grown hgrow (fun g e2 => by have h1 := O.lt _ e2; have h2 := hown0 _ e2; omega)
      have R := (R.alloc (.cells #[.int .u8 42, .bool false, .slice none 0 0, .slice (some ⟨v1.heap.size, 0, none⟩) 1 1] 55)).grown hgrow (fun e2 => by have h1 := (O.lt _ e2).1; omega)
      have P := (P.alloc (.cells #[.int .u8 42, .bool false, .slice none 0 0, .slice (some ⟨v1.heap.size, 0, none⟩) 1 1] 55)).grown hgrow (fun g e2 => by have h1 := (O.lt _ e2).1; omega)
      have O := (O.alloc (.cells #[.int .u8 42, .bool false, .slice none 0 0, .slice (some ⟨v1.heap.size, 0, none⟩) 1 1] 55)).snoc (y := ⟨42, false, none, 0, 0, some ⟨v1.heap.size, 0, none⟩, 1, 1⟩) hown hgrow (hor.imp id (fun e => ⟨_, e, by simp⟩)) hy5 (by omega)
      clear hown hgrow hor
      have fn := Dn.f4
      have fk4 := Dk4.f4
      have fR := R.f
      go_wp2_with fail
      clear fn fk4 fR
      have Dr := (Dr.far (b' := nb) (j := 3) (by omega) (.slice (some ⟨ga, 0, none⟩) (n + 1) ca))
      have Dn : At ((w1starb).setCell ⟨nb, 3, none⟩ (.slice (some ⟨ga, 0, none⟩) (n + 1) ca)) (nb) [.int .u8 38, .bool false, .slice none 0 0, .slice (some ⟨ga, 0, none⟩) (n + 1) ca] := (Dn.set 3 (.slice (some ⟨ga, 0, none⟩) (n + 1) ca))
      obtain ⟨R, P, O, X0, X1⟩ := (fun o => And.intro (R.far (c := nb) 3 (by omega) o) (And.intro (P.setCell (p := ⟨nb, 3, none⟩) (.inl (by dsimp only; omega)) o) (And.intro (O.setCell (p := ⟨nb, 3, none⟩) (by dsimp only; omega) o) (And.intro (X0.setCell (p := ⟨nb, 3, none⟩) (by dsimp only; omega) o) (X1.setCell (p := ⟨nb, 3, none⟩) (by dsimp only; omega) o))))) (.slice (some ⟨ga, 0, none⟩) (n + 1) ca)
      generalize (w1starb).setCell ⟨nb, 3, none⟩ (.slice (some ⟨ga, 0, none⟩) (n + 1) ca) = ystarb at *
      have fn := Dn.f4
      have fR := R.f
      go_quiet (fail)
      clear fn fR
      have Dr := (Dr.drewN nq)
      have Dn := (Dn.drewN nq)
      have R := (R.drewN nq)
      have P := (P.drewN nq)
      have O := (O.drewN nq)
      have X0 := (X0.drewN nq)
      have X1 := (X1.drewN nq)
      generalize (ystarb).drewN nq = zstarb at *
      have fr := Dr.f4
      have fn := Dn.f4
      have fR := R.f
      go_upto_region 9 with (fail)
      repeat go_step
      clear fr fn fR
      obtain ⟨Dr, Dn, R, P, O, X0, X1⟩ := (fun o0 o1 o2 o3 => And.intro (Dr.puts4 o0 o1 o2 o3) (And.intro (Dn.fars4 (w.heap.size) (by omega) o0 o1 o2 o3) (And.intro (R.fars4 (w.heap.size) (by omega) o0 o1 o2 o3) (And.intro (P.sets4 (w.heap.size) (by omega) o0 o1 o2 o3) (And.intro (O.sets4 (w.heap.size) (by omega) o0 o1 o2 o3) (And.intro (X0.sets4 (w.heap.size) (by omega) o0 o1 o2 o3) (X1.sets4 (w.heap.size) (by omega) o0 o1 o2 o3))))))) (.int .u8 38) (.bool false) (.slice none 0 0) (.slice (some ⟨ga, 0, none⟩) (n + 1) ca)
      generalize ((((zstarb).setCell ⟨w.heap.size, 0, none⟩ (.int .u8 38)).setCell ⟨w.heap.size, 1, none⟩ (.bool false)).setCell ⟨w.heap.size, 2, none⟩ (.slice none 0 0)).setCell ⟨w.heap.size, 3, none⟩ (.slice (some ⟨ga, 0, none⟩) (n + 1) ca) = fstarb at *
      have fr := Dr.f4
      have fn := Dn.f4
      have fR := R.f
      refine bodyPost_ret (v := ndV ⟨38, false, none, 0, 0, some ⟨ga, 0, none⟩, n + 1, ca⟩) (by simp [results, Tryz.results50, go_sem, fr]; try rfl) rfl ?_
      have hTe := ro_end HST.out (part_star HS1.out HR.out) (Or.inr (Or.inr HEt.out))
      have hnode := O.node (by omega) (by omega) (S := Rng w fstarb) (fun x hx => ⟨by have := hx.1; omega, hx.2⟩) (o := 38) (p := (ps ++ [(Rx.Pt.star p)]).foldl .seq .eps) (Or.inr ⟨rfl, rfl⟩)
      rw [hTe]
      exact ⟨⟨38, false, none, 0, 0, some ⟨ga, 0, none⟩, n + 1, ca⟩, _, _, _, _, _, rfl, R, P, rfl, rfl, rfl, _, hnode⟩
     have hxt := pk_byteAt R.txt (k1 + 1) (by omega)
     obtain ⟨xt, hxxt⟩ : ∃ x, Rx.pk l (k1 + 1) = x := ⟨_, rfl⟩
     rw [hxxt] at hxt
     have d124t : ((xt : Int) == 124) = false := by rw [beq_eq_false_iff_ne]; omega
     have d41t : ((xt : Int) == 41) = false := by rw [beq_eq_false_iff_ne]; omega
     clear hxxt
     have hqlt : ((k1 + 1) : Int) < (l.length : Int) := by omega
     have hqnt : ¬ ((l.length : Int) ≤ ((k1 + 1) : Int)) := by omega
     have hqmt : (0 : Int) ≤ ((k1 + 1) : Int) := by omega
     have dqt : decide ((l.length : Int) ≤ ((k1 + 1) : Int)) = false := decide_eq_false hqnt
     have dlt : decide (((k1 + 1) : Int) < (l.length : Int)) = true := decide_eq_true hqlt
     have HNt := Lib.hid h124t
     have HMt := Lib.hid h41t
     clear h41t h124t
     have O := O.keep X2.le X2.same
     clear X2
     go_wp2_with (at_builtin; refine wpList_append_own_at _ rfl _ _ 53 rfl bs 55 i0 (.agg #[.int .u8 0, .bool false, .slice none 0 0, .slice none 0 0]) 4 56 Tryz.underlying53 HI.out HZ.out HZ1.out HZ2.out rfl (by decide) _ _ _ rfl (O.own.alloc _) ⟨mstar.heap.size, 0, none⟩ 1 1 [.int .u8 42, .bool false, .slice none 0 0, .slice (some ⟨v1.heap.size, 0, none⟩) 1 1] rfl rfl (cells4_new _ _ _ _ _ _) ?j1staro ?j2staro ?j3staro ?j4staro ?_)
     case j1staro => first | (intro u hu; simp at hu; rcases hu with rfl | rfl | rfl | rfl <;> rfl) | exact ⟨rfl, rfl, rfl, rfl⟩
     case j2staro => have h1 := O.few; unfold maxLen; omega
     case j3staro => have h1 := O.few; omega
     case j4staro => (try simp); have h1 := X0.le; omega
     intro v' w1staro hown hgrow _ hor
     obtain ⟨ga, ca, rfl, hgastaro, hgbstaro⟩ := hown.form (by omega)
     clear fn fk4 fR
     have hy := HN.out.keep (S' := fun x => bs ≤ x ∧ x < (mstar.alloc (.cells #[.int .u8 42, .bool false, .slice none 0 0, .slice (some ⟨v1.heap.size, 0, none⟩) 1 1] 55)).heap.size ∧ (Value.slice ka n kc).ownBlock ≠ some x) (w' := mstar.alloc (.cells #[.int .u8 42, .bool false, .slice none 0 0, .slice (some ⟨v1.heap.size, 0, none⟩) 1 1] 55)) (fun g hg => ⟨Nat.le_trans hble hg.1, Nat.lt_of_lt_of_le hg.2 (X1.alloc (.cells #[.int .u8 42, .bool false, .slice none 0 0, .slice (some ⟨v1.heap.size, 0, none⟩) 1 1] 55)).le, fun e2 => by have h1 := hown0 g e2; have h2 := hg.1; omega⟩) (fun g hg => (X1.alloc (.cells #[.int .u8 42, .bool false, .slice none 0 0, .slice (some ⟨v1.heap.size, 0, none⟩) 1 1] 55)).same g hg.1 hg.2)
     have hy5 : NodeIs (fun x => bs ≤ x ∧ x < (mstar.alloc (.cells #[.int .u8 42, .bool false, .slice none 0 0, .slice (some ⟨v1.heap.size, 0, none⟩) 1 1] 55)).heap.size ∧ (Value.slice ka n kc).ownBlock ≠ some x) (mstar.alloc (.cells #[.int .u8 42, .bool false, .slice none 0 0, .slice (some ⟨v1.heap.size, 0, none⟩) 1 1] 55)) (d2 + 1) ⟨42, false, none, 0, 0, some ⟨v1.heap.size, 0, none⟩, 1, 1⟩ (.star p) :=
      Or.inr (Or.inr (Or.inr ⟨p, v1.heap.size, Or.inl ⟨rfl, rfl⟩, rfl, rfl, ⟨by omega, by have h1 := De5.lt; simp; omega, fun e2 => by have h1 := hown0 _ e2; omega⟩, ⟨xo, xb, sa, sl, sc, ka4, kl4, kc4⟩, hy, fun i v hv => (De5.alloc (.cells #[.int .u8 42, .bool false, .slice none 0 0, .slice (some ⟨v1.heap.size, 0, none⟩) 1 1] 55)).cell i v hv⟩))
     have Dr := grown_at hgrow (Dr.alloc (.cells #[.int .u8 42, .bool false, .slice none 0 0, .slice (some ⟨v1.heap.size, 0, none⟩) 1 1] 55)) (fun e2 => by have h1 := (O.lt _ e2).1; have h2 := hown0 _ e2; omega)
     have Dn := grown_at hgrow (Dn.alloc (.cells #[.int .u8 42, .bool false, .slice none 0 0, .slice (some ⟨v1.heap.size, 0, none⟩) 1 1] 55)) (fun e2 => by have h1 := (O.lt _ e2).1; have h2 := hown0 _ e2; omega)
     have Dk4 := grown_at hgrow (Dk4.alloc (.cells #[.int .u8 42, .bool false, .slice none 0 0, .slice (some ⟨v1.heap.size, 0, none⟩) 1 1] 55)) (fun e2 => by have h1 := (O.lt _ e2).1; have h2 := hown0 _ e2; omega)
     have De5 := grown_at hgrow (De5.alloc (.cells #[.int .u8 42, .bool false, .slice none 0 0, .slice (some ⟨v1.heap.size, 0, none⟩) 1 1] 55)) (fun e2 => by have h1 := (O.lt _ e2).1; have h2 := hown0 _ e2; omega)
     have X0 := (X0.alloc (.cells #[.int .u8 42, .bool false, .slice none 0 0, .slice (some ⟨v1.heap.size, 0, none⟩) 1 1] 55)).grown hgrow (fun g e2 => by have h1 := O.lt _ e2; have h2 := hown0 _ e2; omega)
     have X1 := (X1.alloc (.cells #[.int .u8 42, .bool false, .slice none 0 0, .slice (some ⟨v1.heap.size, 0, none⟩) 1 1] 55)).grown hgrow (fun g e2 => by have h1 := O.lt _ e2; have h2 := hown0 _ e2; omega)
     have R := (R.alloc (.cells #[.int .u8 42, .bool false, .slice none 0 0, .slice (some ⟨v1.heap.size, 0, none⟩) 1 1] 55)).grown hgrow (fun e2 => by have h1 := (O.lt _ e2).1; omega)
     have P := (P.alloc (.cells #[.int .u8 42, .bool false, .slice none 0 0, .slice (some ⟨v1.heap.size, 0, none⟩) 1 1] 55)).grown hgrow (fun g e2 => by have h1 := (O.lt _ e2).1; omega)
     have O := (O.alloc (.cells #[.int .u8 42, .bool false, .slice none 0 0, .slice (some ⟨v1.heap.size, 0, none⟩) 1 1] 55)).snoc (y := ⟨42, false, none, 0, 0, some ⟨v1.heap.size, 0, none⟩, 1, 1⟩) hown hgrow (hor.imp id (fun e => ⟨_, e, by simp⟩)) hy5 (by omega)
     clear hown hgrow hor
     have fn := Dn.f4
     have fk4 := Dk4.f4
     have fR := R.f
     go_wp2_with fail
     clear fn fk4 fR
     have Dr := (Dr.far (b' := nb) (j := 3) (by omega) (.slice (some ⟨ga, 0, none⟩) (n + 1) ca))
     have Dn : At ((w1staro).setCell ⟨nb, 3, none⟩ (.slice (some ⟨ga, 0, none⟩) (n + 1) ca)) (nb) [.int .u8 38, .bool false, .slice none 0 0, .slice (some ⟨ga, 0, none⟩) (n + 1) ca] := (Dn.set 3 (.slice (some ⟨ga, 0, none⟩) (n + 1) ca))
     obtain ⟨R, P, O, X0, X1⟩ := (fun o => And.intro (R.far (c := nb) 3 (by omega) o) (And.intro (P.setCell (p := ⟨nb, 3, none⟩) (.inl (by dsimp only; omega)) o) (And.intro (O.setCell (p := ⟨nb, 3, none⟩) (by dsimp only; omega) o) (And.intro (X0.setCell (p := ⟨nb, 3, none⟩) (by dsimp only; omega) o) (X1.setCell (p := ⟨nb, 3, none⟩) (by dsimp only; omega) o))))) (.slice (some ⟨ga, 0, none⟩) (n + 1) ca)
     generalize (w1staro).setCell ⟨nb, 3, none⟩ (.slice (some ⟨ga, 0, none⟩) (n + 1) ca) = ystaro at *
     have fn := Dn.f4
     have fR := R.f
     go_quiet (fail)
     clear fn fR
     have Dr := (Dr.drewN nq)
     have Dn := (Dn.drewN nq)
     have R := (R.drewN nq)
     have P := (P.drewN nq)
     have O := (O.drewN nq)
     have X0 := (X0.drewN nq)
     have X1 := (X1.drewN nq)
     generalize (ystaro).drewN nq = zstaro at *
     have fn := Dn.f4
     have fR := R.f
     go_wp2
     have hM2 : paM l b zstaro = l.length - (k1 + 1) + 1 := by rw [paM_at R, if_pos rfl]
     have hst2 := ro_more HST.out (part_star HS1.out HR.out) (by omega) HNt.out HMt.out (by omega)
     go_roundw
     case rel => exact ⟨_, _, _, _, _, _, _, _, _, hst2, R, P, fun _ => ⟨_, _, O⟩, Dn, Dr, X0.le⟩
     case measure => rw [hM, hM2]; omega
    by_cases h43 : Rx.pk l k1 = 43
    ·
     have hlt1 : k1 < l.length := Rx.pk_lt (by omega)
     have hxr := pk_byteAt R.txt k1 (by omega)
     rw [h43] at hxr
     have hqlr : (k1 : Int) < (l.length : Int) := by omega
     have hqnr : ¬ ((l.length : Int) ≤ (k1 : Int)) := by omega
     have hqmr : (0 : Int) ≤ (k1 : Int) := by omega
     have dqr : decide ((l.length : Int) ≤ (k1 : Int)) = false := decide_eq_false hqnr
     have dlr : decide ((k1 : Int) < (l.length : Int)) = true := decide_eq_true hqlr
     have HR := Lib.hid h43
     clear h43
     have hir : k1 < s.size := by omega
     go_upto_region 4 with (fail)
     clear fn fR
     have ur1 := Dr.lt
     have un1 := Dn.lt
     have uR1 := R.cells.lt
     have Dk4 := At.nw (w1) [.int .u8 xo, .bool xb, .slice sa sl sc, .slice ka4 kl4 kc4] 55
     obtain ⟨Dr, Dn, R, P⟩ := (fun o => And.intro (Dr.alloc o) (And.intro (Dn.alloc o) (And.intro (R.alloc o) (P.alloc o)))) (.cells #[.int .u8 xo, .bool xb, .slice sa sl sc, .slice ka4 kl4 kc4] 55)
     have X0le := X0.le
     have X0 := (X0.alloc (.cells #[.int .u8 xo, .bool xb, .slice sa sl sc, .slice ka4 kl4 kc4] 55))
     have X2le := X2.le
     have X2 := (X2.alloc (.cells #[.int .u8 xo, .bool xb, .slice sa sl sc, .slice ka4 kl4 kc4] 55))
     have X1le := X1.le
     have X1 := (X1.alloc (.cells #[.int .u8 xo, .bool xb, .slice sa sl sc, .slice ka4 kl4 kc4] 55))
     generalize (w1).alloc (.cells #[.int .u8 xo, .bool xb, .slice sa sl sc, .slice ka4 kl4 kc4] 55) = qplus at *
     have fn := Dn.f4
     have fk4 := Dk4.f4
     have fR := R.f
     go_quiet (fail)
     clear fn fk4 fR
     have Dr := (Dr.drewN nq)
     have Dn := (Dn.drewN nq)
     have Dk4 := (Dk4.drewN nq)
     have R := (R.drewN nq)
     have P := (P.drewN nq)
     have X0 := (X0.drewN nq)
     have X2 := (X2.drewN nq)
     have X1 := (X1.drewN nq)
     generalize (qplus).drewN nq = pplus at *
     have fn := Dn.f4
     have fk4 := Dk4.f4
     have fR := R.f
     go_wp2_with fail
     have hX1q := X1.le
     clear fn fk4 fR
     have Dr : At ((pplus).drew) (w.heap.size) [.int .u8 0, .bool false, .slice none 0 0, .slice none 0 0] := Dr.drew
     have Dn : At ((pplus).drew) (nb) [.int .u8 38, .bool false, .slice none 0 0, .slice ka n kc] := Dn.drew
     have Dk4 : At ((pplus).drew) (w1.heap.size) [.int .u8 xo, .bool xb, .slice sa sl sc, .slice ka4 kl4 kc4] := Dk4.drew
     have R := R.drew
     have P := P.drew
     have X0 := X0.drew
     have X2 := X2.drew
     have X1 := X1.drew
     refine wp_region_held_drew (S := fun u => At u b [.string s, .int .i64 ((k1 : Int)), .int .i64 (dz2), .int .i64 (0), .int .i64 (0)]) (by kernel_rfl) ?_ (fun hS => ?_)
     ·
      exact R.cells
     generalize (pplus).drew = v1 at *
     refine tkH 0 hS ?_
     refine tkH 1 hS ?_
     refine tkH 2 hS ?_
     refine tkC 3 hS (fun _ h => h.f5) ?_
     refine tkH 4 hS ?_
     refine tkH 5 hS ?_
     refine tkH 6 hS ?_
     refine tkC 7 hS (fun _ h => h.f5) ?_
     refine tkH 8 hS ?_
     refine wpAnyH_ready (rs := [9]) (by kernel_rfl) (by simp) ?_
     refine' AllReadyH.cons (o := ?oor24) ?hor24 (fun K hK => ?str24) AllReadyH.nil
     case hor24 =>
      simp only [qa, qb, qc]
      exact rfl
     have fn := Dn.f4
     have fk4 := Dk4.f4
     have fR := R.f
     go_simp
     clear fn fk4 fR
     refine hK.out _ _ ?_ (fun hS => ?_)
     · exact R.cells
     clear hK K
     (try simp only [Act.put, qd, qe, qf])
     refine wpAnyH_ready (rs := [10]) (by kernel_rfl) (by simp) ?_
     refine' AllReadyH.cons (o := ?oor25) ?hor25 (fun K hK => ?str25) AllReadyH.nil
     case hor25 =>
      simp only [qa, qb, qc]
      exact rfl
     have fn := Dn.f4
     have fk4 := Dk4.f4
     have fR := R.f
     go_simp
     clear fn fk4 fR
     have ur2 := Dr.lt
     have un2 := Dn.lt
     have uk42 := Dk4.lt
     have uR2 := R.cells.lt
     have De5 := At.nw (v1) [.int .u8 xo, .bool xb, .slice sa sl sc, .slice ka4 kl4 kc4] 55
     obtain ⟨Dr, Dn, Dk4, R, P⟩ := (fun o => And.intro (Dr.alloc o) (And.intro (Dn.alloc o) (And.intro (Dk4.alloc o) (And.intro (R.alloc o) (P.alloc o))))) (.cells #[.int .u8 xo, .bool xb, .slice sa sl sc, .slice ka4 kl4 kc4] 55)
     have X0le := X0.le
     have X0 := (X0.alloc (.cells #[.int .u8 xo, .bool xb, .slice sa sl sc, .slice ka4 kl4 kc4] 55))
     have X2le := X2.le
     have X2 := (X2.alloc (.cells #[.int .u8 xo, .bool xb, .slice sa sl sc, .slice ka4 kl4 kc4] 55))
     have X1le := X1.le
     have X1 := (X1.alloc (.cells #[.int .u8 xo, .bool xb, .slice sa sl sc, .slice ka4 kl4 kc4] 55))
     refine hK.out _ _ ?_ (fun hS => ?_)
     · exact R.cells
     generalize (v1).alloc (.cells #[.int .u8 xo, .bool xb, .slice sa sl sc, .slice ka4 kl4 kc4] 55) = u14x at *
     clear hK K
     (try simp only [Act.put, qd, qe, qf])
     refine tkH 11 hS ?_
     refine wpAnyH_ready (rs := [12]) (by kernel_rfl) (by simp) ?_
     refine' AllReadyH.cons (o := ?oor27) ?hor27 (fun K hK => ?str27) AllReadyH.nil
     case hor27 =>
      simp only [qa, qb, qc]
      exact rfl
     have fn := Dn.f4
     have fk4 := Dk4.f4
     have fR := R.f
     go_simp
     clear fn fk4 fR
     obtain ⟨Dr, Dn, Dk4, De5, R, P, X0, X2, X1⟩ := (fun o0 o1 o2 o3 => And.intro (Dr.fars4 (w1.heap.size) (by omega) o0 o1 o2 o3) (And.intro (Dn.fars4 (w1.heap.size) (by omega) o0 o1 o2 o3) (And.intro (Dk4.puts4 o0 o1 o2 o3) (And.intro (De5.fars4 (w1.heap.size) (by omega) o0 o1 o2 o3) (And.intro (R.fars4 (w1.heap.size) (by omega) o0 o1 o2 o3) (And.intro (P.sets4 (w1.heap.size) (by omega) o0 o1 o2 o3) (And.intro (X0.sets4 (w1.heap.size) (by omega) o0 o1 o2 o3) (And.intro (X2.sets4 (w1.heap.size) (by omega) o0 o1 o2 o3) (X1.sets4 (w1.heap.size) (by omega) o0 o1 o2 o3))))))))) (.int .u8 43) (.bool false) (.slice none 0 0) (.slice (some ⟨v1.heap.size, 0, none⟩) 1 1)
     refine hK.out _ _ ?_ (fun hS => ?_)
     · exact R.cells
     generalize ((((u14x).setCell ⟨w1.heap.size, 0, none⟩ (.int .u8 43)).setCell ⟨w1.heap.size, 1, none⟩ (.bool false)).setCell ⟨w1.heap.size, 2, none⟩ (.slice none 0 0)).setCell ⟨w1.heap.size, 3, none⟩ (.slice (some ⟨v1.heap.size, 0, none⟩) 1 1) = u15x at *
     clear hK K
     (try simp only [Act.put, qd, qe, qf])
     refine wpAnyH_done (by kernel_rfl) ?_ _
     clear hS
     have fn := Dn.f4
     have fk4 := Dk4.f4
     have fR := R.f
     go_upto_region 7 with (fail)
     clear fn fk4 fR
     obtain ⟨Dr, Dn, Dk4, De5⟩ := (fun o => And.intro (Dr.far (b' := b) (j := 1) (by omega) o) (And.intro (Dn.far (b' := b) (j := 1) (by omega) o) (And.intro (Dk4.far (b' := b) (j := 1) (by omega) o) (De5.far (b' := b) (j := 1) (by omega) o)))) (.int .i64 ((k1 : Int) + 1))
     have R := (R.move (z' := (k1 : Int) + 1) (k' := k1 + 1) (by omega) (by omega))
     obtain ⟨P, X0, X2, X1⟩ := (fun o => And.intro (P.setCell (p := ⟨b, 1, none⟩) (.inr rfl) o) (And.intro (X0.setCell (p := ⟨b, 1, none⟩) (by dsimp only; omega) o) (And.intro (X2.setCell (p := ⟨b, 1, none⟩) (by dsimp only; omega) o) (X1.setCell (p := ⟨b, 1, none⟩) (by dsimp only; omega) o)))) (.int .i64 ((k1 : Int) + 1))
     generalize (u15x).setCell ⟨b, 1, none⟩ (.int .i64 ((k1 : Int) + 1)) = mplus at *
     have fn := Dn.f4
     have fk4 := Dk4.f4
     have fR := R.f
     by_cases hqt : l.length ≤ (k1 + 1)
     ·
      have dqt : decide ((l.length : Int) ≤ ((k1 + 1) : Int)) = true := decide_eq_true (by omega)
      have dlt : decide (((k1 + 1) : Int) < (l.length : Int)) = false := decide_eq_false (by omega)
      have dmt : decide ((k1 + 1) < l.length) = false := decide_eq_false (by omega)
      have dot : decide (l.length ≤ (k1 + 1)) = true := decide_eq_true (by omega)
      have O := O.keep X2.le X2.same
      clear X2
      go_wp2_with (at_builtin; refine wpList_append_own_at _ rfl _ _ 53 rfl bs 55 i0 (.agg #[.int .u8 0, .bool false, .slice none 0 0, .slice none 0 0]) 4 56 Tryz.underlying53 HI.out HZ.out HZ1.out HZ2.out rfl (by decide) _ _ _ rfl (O.own.alloc _) ⟨mplus.heap.size, 0, none⟩ 1 1 [.int .u8 43, .bool false, .slice none 0 0, .slice (some ⟨v1.heap.size, 0, none⟩) 1 1] rfl rfl (cells4_new _ _ _ _ _ _) ?j1pluse ?j2pluse ?j3pluse ?j4pluse ?_)
      case j1pluse => first | (intro u hu; simp at hu; rcases hu with rfl | rfl | rfl | rfl <;> rfl) | exact ⟨rfl, rfl, rfl, rfl⟩
      case j2pluse => have h1 := O.few; unfold maxLen; omega
      case j3pluse => have h1 := O.few; omega
      case j4pluse => (try simp); have h1 := X0.le; omega
      intro v' w1pluse hown hgrow _ hor
      obtain ⟨ga, ca, rfl, hgapluse, hgbpluse⟩ := hown.form (by omega)
      clear fn fk4 fR
      have hy := HN.out.keep (S' := fun x => bs ≤ x ∧ x < (mplus.alloc (.cells #[.int .u8 43, .bool false, .slice none 0 0, .slice (some ⟨v1.heap.size, 0, none⟩) 1 1] 55)).heap.size ∧ (Value.slice ka n kc).ownBlock ≠ some x) (w' := mplus.alloc (.cells #[.int .u8 43, .bool false, .slice none 0 0, .slice (some ⟨v1.heap.size, 0, none⟩) 1 1] 55)) (fun g hg => ⟨Nat.le_trans hble hg.1, Nat.lt_of_lt_of_le hg.2 (X1.alloc (.cells #[.int .u8 43, .bool false, .slice none 0 0, .slice (some ⟨v1.heap.size, 0, none⟩) 1 1] 55)).le, fun e2 => by have h1 := hown0 g e2; have h2 := hg.1; omega⟩) (fun g hg => (X1.alloc (.cells #[.int .u8 43, .bool false, .slice none 0 0, .slice (some ⟨v1.heap.size, 0, none⟩) 1 1] 55)).same g hg.1 hg.2)
      have hy5 : NodeIs (fun x => bs ≤ x ∧ x < (mplus.alloc (.cells #[.int .u8 43, .bool false, .slice none 0 0, .slice (some ⟨v1.heap.size, 0, none⟩) 1 1] 55)).heap.size ∧ (Value.slice ka n kc).ownBlock ≠ some x) (mplus.alloc (.cells #[.int .u8 43, .bool false, .slice none 0 0, .slice (some ⟨v1.heap.size, 0, none⟩) 1 1] 55)) (d2 + 1) ⟨43, false, none, 0, 0, some ⟨v1.heap.size, 0, none⟩, 1, 1⟩ (.plus p) :=
       Or.inr (Or.inr (Or.inr ⟨p, v1.heap.size, Or.inr (Or.inl ⟨rfl, rfl⟩), rfl, rfl, ⟨by omega, by have h1 := De5.lt; simp; omega, fun e2 => by have h1 := hown0 _ e2; omega⟩, ⟨xo, xb, sa, sl, sc, ka4, kl4, kc4⟩, hy, fun i v hv => (De5.alloc (.cells #[.int .u8 43, .bool false, .slice none 0 0, .slice (some ⟨v1.heap.size, 0, none⟩) 1 1] 55)).cell i v hv⟩))
      have Dr := grown_at hgrow (Dr.alloc (.cells #[.int .u8 43, .bool false, .slice none 0 0, .slice (some ⟨v1.heap.size, 0, none⟩) 1 1] 55)) (fun e2 => by have h1 := (O.lt _ e2).1; have h2 := hown0 _ e2; omega)
      have Dn := grown_at hgrow (Dn.alloc (.cells #[.int .u8 43, .bool false, .slice none 0 0, .slice (some ⟨v1.heap.size, 0, none⟩) 1 1] 55)) (fun e2 => by have h1 := (O.lt _ e2).1; have h2 := hown0 _ e2; omega)
      have Dk4 := grown_at hgrow (Dk4.alloc (.cells #[.int .u8 43, .bool false, .slice none 0 0, .slice (some ⟨v1.heap.size, 0, none⟩) 1 1] 55)) (fun e2 => by have h1 := (O.lt _ e2).1; have h2 := hown0 _ e2; omega)
      have De5 := grown_at hgrow (De5.alloc (.cells #[.int .u8 43, .bool false, .slice none 0 0, .slice (some ⟨v1.heap.size, 0, none⟩) 1 1] 55)) (fun e2 => by have h1 := (O.lt _ e2).1; have h2 := hown0 _ e2; omega)
      have X0 := (X0.alloc (.cells #[.int .u8 43, .bool false, .slice none 0 0, .slice (some ⟨v1.heap.size, 0, none⟩) 1 1] 55)).grown hgrow (fun g e2 => by have h1 := O.lt _ e2; have h2 := hown0 _ e2; omega)
      have X1 := (X1.alloc (.cells #[.int .u8 43, .bool false, .slice none 0 0, .slice (some ⟨v1.heap.size, 0, none⟩) 1 1] 55)).grown hgrow (fun g e2 => by have h1 := O.lt _ e2; have h2 := hown0 _ e2; omega)
      have R := (R.alloc (.cells #[.int .u8 43, .bool false, .slice none 0 0, .slice (some ⟨v1.heap.size, 0, none⟩) 1 1] 55)).grown hgrow (fun e2 => by have h1 := (O.lt _ e2).1; omega)
      have P := (P.alloc (.cells #[.int .u8 43, .bool false, .slice none 0 0, .slice (some ⟨v1.heap.size, 0, none⟩) 1 1] 55)).grown hgrow (fun g e2 => by have h1 := (O.lt _ e2).1; omega)
      have O := (O.alloc (.cells #[.int .u8 43, .bool false, .slice none 0 0, .slice (some ⟨v1.heap.size, 0, none⟩) 1 1] 55)).snoc (y := ⟨43, false, none, 0, 0, some ⟨v1.heap.size, 0, none⟩, 1, 1⟩) hown hgrow (hor.imp id (fun e => ⟨_, e, by simp⟩)) hy5 (by omega)
      clear hown hgrow hor
      have fn := Dn.f4
      have fk4 := Dk4.f4
      have fR := R.f
      go_wp2_with fail
      clear fn fk4 fR
      have Dr := (Dr.far (b' := nb) (j := 3) (by omega) (.slice (some ⟨ga, 0, none⟩) (n + 1) ca))
      have Dn : At ((w1pluse).setCell ⟨nb, 3, none⟩ (.slice (some ⟨ga, 0, none⟩) (n + 1) ca)) (nb) [.int .u8 38, .bool false, .slice none 0 0, .slice (some ⟨ga, 0, none⟩) (n + 1) ca] := (Dn.set 3 (.slice (some ⟨ga, 0, none⟩) (n + 1) ca))
      obtain ⟨R, P, O, X0, X1⟩ := (fun o => And.intro (R.far (c := nb) 3 (by omega) o) (And.intro (P.setCell (p := ⟨nb, 3, none⟩) (.inl (by dsimp only; omega)) o) (And.intro (O.setCell (p := ⟨nb, 3, none⟩) (by dsimp only; omega) o) (And.intro (X0.setCell (p := ⟨nb, 3, none⟩) (by dsimp only; omega) o) (X1.setCell (p := ⟨nb, 3, none⟩) (by dsimp only; omega) o))))) (.slice (some ⟨ga, 0, none⟩) (n + 1) ca)
      generalize (w1pluse).setCell ⟨nb, 3, none⟩ (.slice (some ⟨ga, 0, none⟩) (n + 1) ca) = ypluse at *
      have fn := Dn.f4
      have fR := R.f
      go_quiet (fail)
      clear fn fR
      have Dr := (Dr.drewN nq)
      have Dn := (Dn.drewN nq)
      have R := (R.drewN nq)
      have P := (P.drewN nq)
      have O := (O.drewN nq)
      have X0 := (X0.drewN nq)
      have X1 := (X1.drewN nq)
      generalize (ypluse).drewN nq = zpluse at *
      have fr := Dr.f4
      have fn := Dn.f4
      have fR := R.f
      go_upto_region 9 with (fail)
      repeat go_step
      clear fr fn fR
      obtain ⟨Dr, Dn, R, P, O, X0, X1⟩ := (fun o0 o1 o2 o3 => And.intro (Dr.puts4 o0 o1 o2 o3) (And.intro (Dn.fars4 (w.heap.size) (by omega) o0 o1 o2 o3) (And.intro (R.fars4 (w.heap.size) (by omega) o0 o1 o2 o3) (And.intro (P.sets4 (w.heap.size) (by omega) o0 o1 o2 o3) (And.intro (O.sets4 (w.heap.size) (by omega) o0 o1 o2 o3) (And.intro (X0.sets4 (w.heap.size) (by omega) o0 o1 o2 o3) (X1.sets4 (w.heap.size) (by omega) o0 o1 o2 o3))))))) (.int .u8 38) (.bool false) (.slice none 0 0) (.slice (some ⟨ga, 0, none⟩) (n + 1) ca)
      generalize ((((zpluse).setCell ⟨w.heap.size, 0, none⟩ (.int .u8 38)).setCell ⟨w.heap.size, 1, none⟩ (.bool false)).setCell ⟨w.heap.size, 2, none⟩ (.slice none 0 0)).setCell ⟨w.heap.size, 3, none⟩ (.slice (some ⟨ga, 0, none⟩) (n + 1) ca) = fpluse at *
      have fr := Dr.f4
      have fn := Dn.f4
      have fR := R.f
      refine bodyPost_ret (v := ndV ⟨38, false, none, 0, 0, some ⟨ga, 0, none⟩, n + 1, ca⟩) (by simp [results, Tryz.results50, go_sem, fr]; try rfl) rfl ?_
      have hTe := ro_end HST.out (part_plus HS1.out HR.out) (Or.inl hqt)
      have hnode := O.node (by omega) (by omega) (S := Rng w fpluse) (fun x hx => ⟨by have := hx.1; omega, hx.2⟩) (o := 38) (p := (ps ++ [(Rx.Pt.plus p)]).foldl .seq .eps) (Or.inr ⟨rfl, rfl⟩)
      rw [hTe]
      exact ⟨⟨38, false, none, 0, 0, some ⟨ga, 0, none⟩, n + 1, ca⟩, _, _, _, _, _, rfl, R, P, rfl, rfl, rfl, _, hnode⟩
     by_cases h124t : Rx.pk l (k1 + 1) = 124
     ·
      have hxt := pk_byteAt R.txt (k1 + 1) (by omega)
      rw [h124t] at hxt
      have hqlt : ((k1 + 1) : Int) < (l.length : Int) := by omega
      have hqnt : ¬ ((l.length : Int) ≤ ((k1 + 1) : Int)) := by omega
      have hqmt : (0 : Int) ≤ ((k1 + 1) : Int) := by omega
      have dqt : decide ((l.length : Int) ≤ ((k1 + 1) : Int)) = false := decide_eq_false hqnt
      have dlt : decide (((k1 + 1) : Int) < (l.length : Int)) = true := decide_eq_true hqlt
      have HEt := Lib.hid h124t
      clear h124t
      have O := O.keep X2.le X2.same
      clear X2
      go_wp2_with (at_builtin; refine wpList_append_own_at _ rfl _ _ 53 rfl bs 55 i0 (.agg #[.int .u8 0, .bool false, .slice none 0 0, .slice none 0 0]) 4 56 Tryz.underlying53 HI.out HZ.out HZ1.out HZ2.out rfl (by decide) _ _ _ rfl (O.own.alloc _) ⟨mplus.heap.size, 0, none⟩ 1 1 [.int .u8 43, .bool false, .slice none 0 0, .slice (some ⟨v1.heap.size, 0, none⟩) 1 1] rfl rfl (cells4_new _ _ _ _ _ _) ?j1pluss ?j2pluss ?j3pluss ?j4pluss ?_)
      case j1pluss => first | (intro u hu; simp at hu; rcases hu with rfl | rfl | rfl | rfl <;> rfl) | exact ⟨rfl, rfl, rfl, rfl⟩
      case j2pluss => have h1 := O.few; unfold maxLen; omega
      case j3pluss => have h1 := O.few; omega
      case j4pluss => (try simp); have h1 := X0.le; omega
      intro v' w1pluss hown hgrow _ hor
      obtain ⟨ga, ca, rfl, hgapluss, hgbpluss⟩ := hown.form (by omega)
      clear fn fk4 fR
      have hy := HN.out.keep (S' := fun x => bs ≤ x ∧ x < (mplus.alloc (.cells #[.int .u8 43, .bool false, .slice none 0 0, .slice (some ⟨v1.heap.size, 0, none⟩) 1 1] 55)).heap.size ∧ (Value.slice ka n kc).ownBlock ≠ some x) (w' := mplus.alloc (.cells #[.int .u8 43, .bool false, .slice none 0 0, .slice (some ⟨v1.heap.size, 0, none⟩) 1 1] 55)) (fun g hg => ⟨Nat.le_trans hble hg.1, Nat.lt_of_lt_of_le hg.2 (X1.alloc (.cells #[.int .u8 43, .bool false, .slice none 0 0, .slice (some ⟨v1.heap.size, 0, none⟩) 1 1] 55)).le, fun e2 => by have h1 := hown0 g e2; have h2 := hg.1; omega⟩) (fun g hg => (X1.alloc (.cells #[.int .u8 43, .bool false, .slice none 0 0, .slice (some ⟨v1.heap.size, 0, none⟩) 1 1] 55)).same g hg.1 hg.2)
      have hy5 : NodeIs (fun x => bs ≤ x ∧ x < (mplus.alloc (.cells #[.int .u8 43, .bool false, .slice none 0 0, .slice (some ⟨v1.heap.size, 0, none⟩) 1 1] 55)).heap.size ∧ (Value.slice ka n kc).ownBlock ≠ some x) (mplus.alloc (.cells #[.int .u8 43, .bool false, .slice none 0 0, .slice (some ⟨v1.heap.size, 0, none⟩) 1 1] 55)) (d2 + 1) ⟨43, false, none, 0, 0, some ⟨v1.heap.size, 0, none⟩, 1, 1⟩ (.plus p) :=
       Or.inr (Or.inr (Or.inr ⟨p, v1.heap.size, Or.inr (Or.inl ⟨rfl, rfl⟩), rfl, rfl, ⟨by omega, by have h1 := De5.lt; simp; omega, fun e2 => by have h1 := hown0 _ e2; omega⟩, ⟨xo, xb, sa, sl, sc, ka4, kl4, kc4⟩, hy, fun i v hv => (De5.alloc (.cells #[.int .u8 43, .bool false, .slice none 0 0, .slice (some ⟨v1.heap.size, 0, none⟩) 1 1] 55)).cell i v hv⟩))
      have Dr := grown_at hgrow (Dr.alloc (.cells #[.int .u8 43, .bool false, .slice none 0 0, .slice (some ⟨v1.heap.size, 0, none⟩) 1 1] 55)) (fun e2 => by have h1 := (O.lt _ e2).1; have h2 := hown0 _ e2; omega)
      have Dn := grown_at hgrow (Dn.alloc (.cells #[.int .u8 43, .bool false, .slice none 0 0, .slice (some ⟨v1.heap.size, 0, none⟩) 1 1] 55)) (fun e2 => by have h1 := (O.lt _ e2).1; have h2 := hown0 _ e2; omega)
      have Dk4 := grown_at hgrow (Dk4.alloc (.cells #[.int .u8 43, .bool false, .slice none 0 0, .slice (some ⟨v1.heap.size, 0, none⟩) 1 1] 55)) (fun e2 => by have h1 := (O.lt _ e2).1; have h2 := hown0 _ e2; omega)
      have De5 := grown_at hgrow (De5.alloc (.cells #[.int .u8 43, .bool false, .slice none 0 0, .slice (some ⟨v1.heap.size, 0, none⟩) 1 1] 55)) (fun e2 => by have h1 := (O.lt _ e2).1; have h2 := hown0 _ e2; omega)
      have X0 := (X0.alloc (.cells #[.int .u8 43, .bool false, .slice none 0 0, .slice (some ⟨v1.heap.size, 0, none⟩) 1 1] 55)).grown hgrow (fun g e2 => by have h1 := O.lt _ e2; have h2 := hown0 _ e2; omega)
      have X1 := (X1.alloc (.cells #[.int .u8 43, .bool false, .slice none 0 0, .slice (some ⟨v1.heap.size, 0, none⟩) 1 1] 55)).grown hgrow (fun g e2 => by have h1 := O.lt _ e2; have h2 := hown0 _ e2; omega)
      have R := (R.alloc (.cells #[.int .u8 43, .bool false, .slice none 0 0, .slice (some ⟨v1.heap.size, 0, none⟩) 1 1] 55)).grown hgrow (fun e2 => by have h1 := (O.lt _ e2).1; omega)
      have P := (P.alloc (.cells #[.int .u8 43, .bool false, .slice none 0 0, .slice (some ⟨v1.heap.size, 0, none⟩) 1 1] 55)).grown hgrow (fun g e2 => by have h1 := (O.lt _ e2).1; omega)
      have O := (O.alloc (.cells #[.int .u8 43, .bool false, .slice none 0 0, .slice (some ⟨v1.heap.size, 0, none⟩) 1 1] 55)).snoc (y := ⟨43, false, none, 0, 0, some ⟨v1.heap.size, 0, none⟩, 1, 1⟩) hown hgrow (hor.imp id (fun e => ⟨_, e, by simp⟩)) hy5 (by omega)
      clear hown hgrow hor
      have fn := Dn.f4
      have fk4 := Dk4.f4
      have fR := R.f
      go_wp2_with fail
      clear fn fk4 fR
      have Dr := (Dr.far (b' := nb) (j := 3) (by omega) (.slice (some ⟨ga, 0, none⟩) (n + 1) ca))
      have Dn : At ((w1pluss).setCell ⟨nb, 3, none⟩ (.slice (some ⟨ga, 0, none⟩) (n + 1) ca)) (nb) [.int .u8 38, .bool false, .slice none 0 0, .slice (some ⟨ga, 0, none⟩) (n + 1) ca] := (Dn.set 3 (.slice (some ⟨ga, 0, none⟩) (n + 1) ca))
      obtain ⟨R, P, O, X0, X1⟩ := (fun o => And.intro (R.far (c := nb) 3 (by omega) o) (And.intro (P.setCell (p := ⟨nb, 3, none⟩) (.inl (by dsimp only; omega)) o) (And.intro (O.setCell (p := ⟨nb, 3, none⟩) (by dsimp only; omega) o) (And.intro (X0.setCell (p := ⟨nb, 3, none⟩) (by dsimp only; omega) o) (X1.setCell (p := ⟨nb, 3, none⟩) (by dsimp only; omega) o))))) (.slice (some ⟨ga, 0, none⟩) (n + 1) ca)
      generalize (w1pluss).setCell ⟨nb, 3, none⟩ (.slice (some ⟨ga, 0, none⟩) (n + 1) ca) = ypluss at *
      have fn := Dn.f4
      have fR := R.f
      go_quiet (fail)
      clear fn fR
      have Dr := (Dr.drewN nq)
      have Dn := (Dn.drewN nq)
      have R := (R.drewN nq)
      have P := (P.drewN nq)
      have O := (O.drewN nq)
      have X0 := (X0.drewN nq)
      have X1 := (X1.drewN nq)
      generalize (ypluss).drewN nq = zpluss at *
      have fr := Dr.f4
      have fn := Dn.f4
      have fR := R.f
      go_upto_region 9 with (fail)
      repeat go_step
      clear fr fn fR
      obtain ⟨Dr, Dn, R, P, O, X0, X1⟩ := (fun o0 o1 o2 o3 => And.intro (Dr.puts4 o0 o1 o2 o3) (And.intro (Dn.fars4 (w.heap.size) (by omega) o0 o1 o2 o3) (And.intro (R.fars4 (w.heap.size) (by omega) o0 o1 o2 o3) (And.intro (P.sets4 (w.heap.size) (by omega) o0 o1 o2 o3) (And.intro (O.sets4 (w.heap.size) (by omega) o0 o1 o2 o3) (And.intro (X0.sets4 (w.heap.size) (by omega) o0 o1 o2 o3) (X1.sets4 (w.heap.size) (by omega) o0 o1 o2 o3))))))) (.int .u8 38) (.bool false) (.slice none 0 0) (.slice (some ⟨ga, 0, none⟩) (n + 1) ca)
      generalize ((((zpluss).setCell ⟨w.heap.size, 0, none⟩ (.int .u8 38)).setCell ⟨w.heap.size, 1, none⟩ (.bool false)).setCell ⟨w.heap.size, 2, none⟩ (.slice none 0 0)).setCell ⟨w.heap.size, 3, none⟩ (.slice (some ⟨ga, 0, none⟩) (n + 1) ca) = fpluss at *
      have fr := Dr.f4
      have fn := Dn.f4
      have fR := R.f
      refine bodyPost_ret (v := ndV ⟨38, false, none, 0, 0, some ⟨ga, 0, none⟩, n + 1, ca⟩) (by simp [results, Tryz.results50, go_sem, fr]; try rfl) rfl ?_
      have hTe := ro_end HST.out (part_plus HS1.out HR.out) (Or.inr (Or.inl HEt.out))
      have hnode := O.node (by omega) (by omega) (S := Rng w fpluss) (fun x hx => ⟨by have := hx.1; omega, hx.2⟩) (o := 38) (p := (ps ++ [(Rx.Pt.plus p)]).foldl .seq .eps) (Or.inr ⟨rfl, rfl⟩)
      rw [hTe]
      exact ⟨⟨38, false, none, 0, 0, some ⟨ga, 0, none⟩, n + 1, ca⟩, _, _, _, _, _, rfl, R, P, rfl, rfl, rfl, _, hnode⟩
     by_cases h41t : Rx.pk l (k1 + 1) = 41
     ·
      have hxt := pk_byteAt R.txt (k1 + 1) (by omega)
      rw [h41t] at hxt
      have hqlt : ((k1 + 1) : Int) < (l.length : Int) := by omega
      have hqnt : ¬ ((l.length : Int) ≤ ((k1 + 1) : Int)) := by omega
      have hqmt : (0 : Int) ≤ ((k1 + 1) : Int) := by omega
      have dqt : decide ((l.length : Int) ≤ ((k1 + 1) : Int)) = false := decide_eq_false hqnt
      have dlt : decide (((k1 + 1) : Int) < (l.length : Int)) = true := decide_eq_true hqlt
      have HEt := Lib.hid h41t
      have HNt := Lib.hid h124t
      clear h41t h124t
      have O := O.keep X2.le X2.same
      clear X2
      go_wp2_with (at_builtin; refine wpList_append_own_at _ rfl _ _ 53 rfl bs 55 i0 (.agg #[.int .u8 0, .bool false, .slice none 0 0, .slice none 0 0]) 4 56 Tryz.underlying53 HI.out HZ.out HZ1.out HZ2.out rfl (by decide) _ _ _ rfl (O.own.alloc _) ⟨mplus.heap.size, 0, none⟩ 1 1 [.int .u8 43, .bool false, .slice none 0 0, .slice (some ⟨v1.heap.size, 0, none⟩) 1 1] rfl rfl (cells4_new _ _ _ _ _ _) ?j1plusb ?j2plusb ?j3plusb ?j4plusb ?_)
      case j1plusb => first | (intro u hu; simp at hu; rcases hu with rfl | rfl | rfl | rfl <;> rfl) | exact ⟨rfl, rfl, rfl, rfl⟩
      case j2plusb => have h1 := O.few; unfold maxLen; omega
      case j3plusb => have h1 := O.few; omega
      case j4plusb => (try simp); have h1 := X0.le; omega
      intro v' w1plusb hown hgrow _ hor
      obtain ⟨ga, ca, rfl, hgaplusb, hgbplusb⟩ := hown.form (by omega)
      clear fn fk4 fR
      have hy := HN.out.keep (S' := fun x => bs ≤ x ∧ x < (mplus.alloc (.cells #[.int .u8 43, .bool false, .slice none 0 0, .slice (some ⟨v1.heap.size, 0, none⟩) 1 1] 55)).heap.size ∧ (Value.slice ka n kc).ownBlock ≠ some x) (w' := mplus.alloc (.cells #[.int .u8 43, .bool false, .slice none 0 0, .slice (some ⟨v1.heap.size, 0, none⟩) 1 1] 55)) (fun g hg => ⟨Nat.le_trans hble hg.1, Nat.lt_of_lt_of_le hg.2 (X1.alloc (.cells #[.int .u8 43, .bool false, .slice none 0 0, .slice (some ⟨v1.heap.size, 0, none⟩) 1 1] 55)).le, fun e2 => by have h1 := hown0 g e2; have h2 := hg.1; omega⟩) (fun g hg => (X1.alloc (.cells #[.int .u8 43, .bool false, .slice none 0 0, .slice (some ⟨v1.heap.size, 0, none⟩) 1 1] 55)).same g hg.1 hg.2)
      have hy5 : NodeIs (fun x => bs ≤ x ∧ x < (mplus.alloc (.cells #[.int .u8 43, .bool false, .slice none 0 0, .slice (some ⟨v1.heap.size, 0, none⟩) 1 1] 55)).heap.size ∧ (Value.slice ka n kc).ownBlock ≠ some x) (mplus.alloc (.cells #[.int .u8 43, .bool false, .slice none 0 0, .slice (some ⟨v1.heap.size, 0, none⟩) 1 1] 55)) (d2 + 1) ⟨43, false, none, 0, 0, some ⟨v1.heap.size, 0, none⟩, 1, 1⟩ (.plus p) :=
       Or.inr (Or.inr (Or.inr ⟨p, v1.heap.size, Or.inr (Or.inl ⟨rfl, rfl⟩), rfl, rfl, ⟨by omega, by have h1 := De5.lt; simp; omega, fun e2 => by have h1 := hown0 _ e2; omega⟩, ⟨xo, xb, sa, sl, sc, ka4, kl4, kc4⟩, hy, fun i v hv => (De5.alloc (.cells #[.int .u8 43, .bool false, .slice none 0 0, .slice (some ⟨v1.heap.size, 0, none⟩) 1 1] 55)).cell i v hv⟩))
      have Dr := grown_at hgrow (Dr.alloc (.cells #[.int .u8 43, .bool false, .slice none 0 0, .slice (some ⟨v1.heap.size, 0, none⟩) 1 1] 55)) (fun e2 => by have h1 := (O.lt _ e2).1; have h2 := hown0 _ e2; omega)
      have Dn := grown_at hgrow (Dn.alloc (.cells #[.int .u8 43, .bool false, .slice none 0 0, .slice (some ⟨v1.heap.size, 0, none⟩) 1 1] 55)) (fun e2 => by have h1 := (O.lt _ e2).1; have h2 := hown0 _ e2; omega)
      have Dk4 := grown_at hgrow (Dk4.alloc (.cells #[.int .u8 43, .bool false, .slice none 0 0, .slice (some ⟨v1.heap.size, 0, none⟩) 1 1] 55)) (fun e2 => by have h1 := (O.lt _ e2).1; have h2 := hown0 _ e2; omega)
      have De5 := grown_at hgrow (De5.alloc (.cells #[.int .u8 43, .bool false, .slice none 0 0, .slice (some ⟨v1.heap.size, 0, none⟩) 1 1] 55)) (fun e2 => by have h1 := (O.lt _ e2).1; have h2 := hown0 _ e2; omega)
      have X0 := (X0.alloc (.cells #[.int .u8 43, .bool false, .slice none 0 0, .slice (some ⟨v1.heap.size, 0, none⟩) 1 1] 55)).grown hgrow (fun g e2 => by have h1 := O.lt _ e2; have h2 := hown0 _ e2; omega)
      have X1 := (X1.alloc (.cells #[.int .u8 43, .bool false, .slice none 0 0, .slice (some ⟨v1.heap.size, 0, none⟩) 1 1] 55)).grown hgrow (fun g e2 => by have h1 := O.lt _ e2; have h2 := hown0 _ e2; omega)
      have R := (R.alloc (.cells #[.int .u8 43, .bool false, .slice none 0 0, .slice (some ⟨v1.heap.size, 0, none⟩) 1 1] 55)).grown hgrow (fun e2 => by have h1 := (O.lt _ e2).1; omega)
      have P := (P.alloc (.cells #[.int .u8 43, .bool false, .slice none 0 0, .slice (some ⟨v1.heap.size, 0, none⟩) 1 1] 55)).grown hgrow (fun g e2 => by have h1 := (O.lt _ e2).1; omega)
      have O := (O.alloc (.cells #[.int .u8 43, .bool false, .slice none 0 0, .slice (some ⟨v1.heap.size, 0, none⟩) 1 1] 55)).snoc (y := ⟨43, false, none, 0, 0, some ⟨v1.heap.size, 0, none⟩, 1, 1⟩) hown hgrow (hor.imp id (fun e => ⟨_, e, by simp⟩)) hy5 (by omega)
      clear hown hgrow hor
      have fn := Dn.f4
      have fk4 := Dk4.f4
      have fR := R.f
      go_wp2_with fail
      clear fn fk4 fR
      have Dr := (Dr.far (b' := nb) (j := 3) (by omega) (.slice (some ⟨ga, 0, none⟩) (n + 1) ca))
      have Dn : At ((w1plusb).setCell ⟨nb, 3, none⟩ (.slice (some ⟨ga, 0, none⟩) (n + 1) ca)) (nb) [.int .u8 38, .bool false, .slice none 0 0, .slice (some ⟨ga, 0, none⟩) (n + 1) ca] := (Dn.set 3 (.slice (some ⟨ga, 0, none⟩) (n + 1) ca))
      obtain ⟨R, P, O, X0, X1⟩ := (fun o => And.intro (R.far (c := nb) 3 (by omega) o) (And.intro (P.setCell (p := ⟨nb, 3, none⟩) (.inl (by dsimp only; omega)) o) (And.intro (O.setCell (p := ⟨nb, 3, none⟩) (by dsimp only; omega) o) (And.intro (X0.setCell (p := ⟨nb, 3, none⟩) (by dsimp only; omega) o) (X1.setCell (p := ⟨nb, 3, none⟩) (by dsimp only; omega) o))))) (.slice (some ⟨ga, 0, none⟩) (n + 1) ca)
      generalize (w1plusb).setCell ⟨nb, 3, none⟩ (.slice (some ⟨ga, 0, none⟩) (n + 1) ca) = yplusb at *
      have fn := Dn.f4
      have fR := R.f
      go_quiet (fail)
      clear fn fR
      have Dr := (Dr.drewN nq)
      have Dn := (Dn.drewN nq)
      have R := (R.drewN nq)
      have P := (P.drewN nq)
      have O := (O.drewN nq)
      have X0 := (X0.drewN nq)
      have X1 := (X1.drewN nq)
      generalize (yplusb).drewN nq = zplusb at *
      have fr := Dr.f4
      have fn := Dn.f4
      have fR := R.f
      go_upto_region 9 with (fail)
      repeat go_step
      clear fr fn fR
      obtain ⟨Dr, Dn, R, P, O, X0, X1⟩ := (fun o0 o1 o2 o3 => And.intro (Dr.puts4 o0 o1 o2 o3) (And.intro (Dn.fars4 (w.heap.size) (by omega) o0 o1 o2 o3) (And.intro (R.fars4 (w.heap.size) (by omega) o0 o1 o2 o3) (And.intro (P.sets4 (w.heap.size) (by omega) o0 o1 o2 o3) (And.intro (O.sets4 (w.heap.size) (by omega) o0 o1 o2 o3) (And.intro (X0.sets4 (w.heap.size) (by omega) o0 o1 o2 o3) (X1.sets4 (w.heap.size) (by omega) o0 o1 o2 o3))))))) (.int .u8 38) (.bool false) (.slice none 0 0) (.slice (some ⟨ga, 0, none⟩) (n + 1) ca)
      generalize ((((zplusb).setCell ⟨w.heap.size, 0, none⟩ (.int .u8 38)).setCell ⟨w.heap.size, 1, none⟩ (.bool false)).setCell ⟨w.heap.size, 2, none⟩ (.slice none 0 0)).setCell ⟨w.heap.size, 3, none⟩ (.slice (some ⟨ga, 0, none⟩) (n + 1) ca) = fplusb at *
      have fr := Dr.f4
      have fn := Dn.f4
      have fR := R.f
      refine bodyPost_ret (v := ndV ⟨38, false, none, 0, 0, some ⟨ga, 0, none⟩, n + 1, ca⟩) (by simp [results, Tryz.results50, go_sem, fr]; try rfl) rfl ?_
      have hTe := ro_end HST.out (part_plus HS1.out HR.out) (Or.inr (Or.inr HEt.out))
      have hnode := O.node (by omega) (by omega) (S := Rng w fplusb) (fun x hx => ⟨by have := hx.1; omega, hx.2⟩) (o := 38) (p := (ps ++ [(Rx.Pt.plus p)]).foldl .seq .eps) (Or.inr ⟨rfl, rfl⟩)
      rw [hTe]
      exact ⟨⟨38, false, none, 0, 0, some ⟨ga, 0, none⟩, n + 1, ca⟩, _, _, _, _, _, rfl, R, P, rfl, rfl, rfl, _, hnode⟩
     have hxt := pk_byteAt R.txt (k1 + 1) (by omega)
     obtain ⟨xt, hxxt⟩ : ∃ x, Rx.pk l (k1 + 1) = x := ⟨_, rfl⟩
     rw [hxxt] at hxt
     have d124t : ((xt : Int) == 124) = false := by rw [beq_eq_false_iff_ne]; omega
     have d41t : ((xt : Int) == 41) = false := by rw [beq_eq_false_iff_ne]; omega
     clear hxxt
     have hqlt : ((k1 + 1) : Int) < (l.length : Int) := by omega
     have hqnt : ¬ ((l.length : Int) ≤ ((k1 + 1) : Int)) := by omega
     have hqmt : (0 : Int) ≤ ((k1 + 1) : Int) := by omega
     have dqt : decide ((l.length : Int) ≤ ((k1 + 1) : Int)) = false := decide_eq_false hqnt
     have dlt : decide (((k1 + 1) : Int) < (l.length : Int)) = true := decide_eq_true hqlt
     have HNt := Lib.hid h124t
     have HMt := Lib.hid h41t
     clear h41t h124t
     have O := O.keep X2.le X2.same
     clear X2
     go_wp2_with (at_builtin; refine wpList_append_own_at _ rfl _ _ 53 rfl bs 55 i0 (.agg #[.int .u8 0, .bool false, .slice none 0 0, .slice none 0 0]) 4 56 Tryz.underlying53 HI.out HZ.out HZ1.out HZ2.out rfl (by decide) _ _ _ rfl (O.own.alloc _) ⟨mplus.heap.size, 0, none⟩ 1 1 [.int .u8 43, .bool false, .slice none 0 0, .slice (some ⟨v1.heap.size, 0, none⟩) 1 1] rfl rfl (cells4_new _ _ _ _ _ _) ?j1pluso ?j2pluso ?j3pluso ?j4pluso ?_)
     case j1pluso => first | (intro u hu; simp at hu; rcases hu with rfl | rfl | rfl | rfl <;> rfl) | exact ⟨rfl, rfl, rfl, rfl⟩
     case j2pluso => have h1 := O.few; unfold maxLen; omega
     case j3pluso => have h1 := O.few; omega
     case j4pluso => (try simp); have h1 := X0.le; omega
     intro v' w1pluso hown hgrow _ hor
     obtain ⟨ga, ca, rfl, hgapluso, hgbpluso⟩ := hown.form (by omega)
     clear fn fk4 fR
     have hy := HN.out.keep (S' := fun x => bs ≤ x ∧ x < (mplus.alloc (.cells #[.int .u8 43, .bool false, .slice none 0 0, .slice (some ⟨v1.heap.size, 0, none⟩) 1 1] 55)).heap.size ∧ (Value.slice ka n kc).ownBlock ≠ some x) (w' := mplus.alloc (.cells #[.int .u8 43, .bool false, .slice none 0 0, .slice (some ⟨v1.heap.size, 0, none⟩) 1 1] 55)) (fun g hg => ⟨Nat.le_trans hble hg.1, Nat.lt_of_lt_of_le hg.2 (X1.alloc (.cells #[.int .u8 43, .bool false, .slice none 0 0, .slice (some ⟨v1.heap.size, 0, none⟩) 1 1] 55)).le, fun e2 => by have h1 := hown0 g e2; have h2 := hg.1; omega⟩) (fun g hg => (X1.alloc (.cells #[.int .u8 43, .bool false, .slice none 0 0, .slice (some ⟨v1.heap.size, 0, none⟩) 1 1] 55)).same g hg.1 hg.2)
     have hy5 : NodeIs (fun x => bs ≤ x ∧ x < (mplus.alloc (.cells #[.int .u8 43, .bool false, .slice none 0 0, .slice (some ⟨v1.heap.size, 0, none⟩) 1 1] 55)).heap.size ∧ (Value.slice ka n kc).ownBlock ≠ some x) (mplus.alloc (.cells #[.int .u8 43, .bool false, .slice none 0 0, .slice (some ⟨v1.heap.size, 0, none⟩) 1 1] 55)) (d2 + 1) ⟨43, false, none, 0, 0, some ⟨v1.heap.size, 0, none⟩, 1, 1⟩ (.plus p) :=
      Or.inr (Or.inr (Or.inr ⟨p, v1.heap.size, Or.inr (Or.inl ⟨rfl, rfl⟩), rfl, rfl, ⟨by omega, by have h1 := De5.lt; simp; omega, fun e2 => by have h1 := hown0 _ e2; omega⟩, ⟨xo, xb, sa, sl, sc, ka4, kl4, kc4⟩, hy, fun i v hv => (De5.alloc (.cells #[.int .u8 43, .bool false, .slice none 0 0, .slice (some ⟨v1.heap.size, 0, none⟩) 1 1] 55)).cell i v hv⟩))
     have Dr := grown_at hgrow (Dr.alloc (.cells #[.int .u8 43, .bool false, .slice none 0 0, .slice (some ⟨v1.heap.size, 0, none⟩) 1 1] 55)) (fun e2 => by have h1 := (O.lt _ e2).1; have h2 := hown0 _ e2; omega)
     have Dn := grown_at hgrow (Dn.alloc (.cells #[.int .u8 43, .bool false, .slice none 0 0, .slice (some ⟨v1.heap.size, 0, none⟩) 1 1] 55)) (fun e2 => by have h1 := (O.lt _ e2).1; have h2 := hown0 _ e2; omega)
     have Dk4 := grown_at hgrow (Dk4.alloc (.cells #[.int .u8 43, .bool false, .slice none 0 0, .slice (some ⟨v1.heap.size, 0, none⟩) 1 1] 55)) (fun e2 => by have h1 := (O.lt _ e2).1; have h2 := hown0 _ e2; omega)
     have De5 := grown_at hgrow (De5.alloc (.cells #[.int .u8 43, .bool false, .slice none 0 0, .slice (some ⟨v1.heap.size, 0, none⟩) 1 1] 55)) (fun e2 => by have h1 := (O.lt _ e2).1; have h2 := hown0 _ e2; omega)
     have X0 := (X0.alloc (.cells #[.int .u8 43, .bool false, .slice none 0 0, .slice (some ⟨v1.heap.size, 0, none⟩) 1 1] 55)).grown hgrow (fun g e2 => by have h1 := O.lt _ e2; have h2 := hown0 _ e2; omega)
     have X1 := (X1.alloc (.cells #[.int .u8 43, .bool false, .slice none 0 0, .slice (some ⟨v1.heap.size, 0, none⟩) 1 1] 55)).grown hgrow (fun g e2 => by have h1 := O.lt _ e2; have h2 := hown0 _ e2; omega)
     have R := (R.alloc (.cells #[.int .u8 43, .bool false, .slice none 0 0, .slice (some ⟨v1.heap.size, 0, none⟩) 1 1] 55)).grown hgrow (fun e2 => by have h1 := (O.lt _ e2).1; omega)
     have P := (P.alloc (.cells #[.int .u8 43, .bool false, .slice none 0 0, .slice (some ⟨v1.heap.size, 0, none⟩) 1 1] 55)).grown hgrow (fun g e2 => by have h1 := (O.lt _ e2).1; omega)
     have O := (O.alloc (.cells #[.int .u8 43, .bool false, .slice none 0 0, .slice (some ⟨v1.heap.size, 0, none⟩) 1 1] 55)).snoc (y := ⟨43, false, none, 0, 0, some ⟨v1.heap.size, 0, none⟩, 1, 1⟩) hown hgrow (hor.imp id (fun e => ⟨_, e, by simp⟩)) hy5 (by omega)
     clear hown hgrow hor
     have fn := Dn.f4
     have fk4 := Dk4.f4
     have fR := R.f
     go_wp2_with fail
     clear fn fk4 fR
     have Dr := (Dr.far (b' := nb) (j := 3) (by omega) (.slice (some ⟨ga, 0, none⟩) (n + 1) ca))
     have Dn : At ((w1pluso).setCell ⟨nb, 3, none⟩ (.slice (some ⟨ga, 0, none⟩) (n + 1) ca)) (nb) [.int .u8 38, .bool false, .slice none 0 0, .slice (some ⟨ga, 0, none⟩) (n + 1) ca] := (Dn.set 3 (.slice (some ⟨ga, 0, none⟩) (n + 1) ca))
     obtain ⟨R, P, O, X0, X1⟩ := (fun o => And.intro (R.far (c := nb) 3 (by omega) o) (And.intro (P.setCell (p := ⟨nb, 3, none⟩) (.inl (by dsimp only; omega)) o) (And.intro (O.setCell (p := ⟨nb, 3, none⟩) (by dsimp only; omega) o) (And.intro (X0.setCell (p := ⟨nb, 3, none⟩) (by dsimp only; omega) o) (X1.setCell (p := ⟨nb, 3, none⟩) (by dsimp only; omega) o))))) (.slice (some ⟨ga, 0, none⟩) (n + 1) ca)
     generalize (w1pluso).setCell ⟨nb, 3, none⟩ (.slice (some ⟨ga, 0, none⟩) (n + 1) ca) = ypluso at *
     have fn := Dn.f4
     have fR := R.f
     go_quiet (fail)
     clear fn fR
     have Dr := (Dr.drewN nq)
     have Dn := (Dn.drewN nq)
     have R := (R.drewN nq)
     have P := (P.drewN nq)
     have O := (O.drewN nq)
     have X0 := (X0.drewN nq)
     have X1 := (X1.drewN nq)
     generalize (ypluso).drewN nq = zpluso at *
     have fn := Dn.f4
     have fR := R.f
     go_wp2
     have hM2 : paM l b zpluso = l.length - (k1 + 1) + 1 := by rw [paM_at R, if_pos rfl]
     have hst2 := ro_more HST.out (part_plus HS1.out HR.out) (by omega) HNt.out HMt.out (by omega)
     go_roundw
     case rel => exact ⟨_, _, _, _, _, _, _, _, _, hst2, R, P, fun _ => ⟨_, _, O⟩, Dn, Dr, X0.le⟩
     case measure => rw [hM, hM2]; omega
    by_cases h63 : Rx.pk l k1 = 63
    ·
     have hlt1 : k1 < l.length := Rx.pk_lt (by omega)
     have hxr := pk_byteAt R.txt k1 (by omega)
     rw [h63] at hxr
     have hqlr : (k1 : Int) < (l.length : Int) := by omega
     have hqnr : ¬ ((l.length : Int) ≤ (k1 : Int)) := by omega
     have hqmr : (0 : Int) ≤ (k1 : Int) := by omega
     have dqr : decide ((l.length : Int) ≤ (k1 : Int)) = false := decide_eq_false hqnr
     have dlr : decide ((k1 : Int) < (l.length : Int)) = true := decide_eq_true hqlr
     have HR := Lib.hid h63
     clear h63
     have hir : k1 < s.size := by omega
     go_upto_region 4 with (fail)
     clear fn fR
     have ur1 := Dr.lt
     have un1 := Dn.lt
     have uR1 := R.cells.lt
     have Dk4 := At.nw (w1) [.int .u8 xo, .bool xb, .slice sa sl sc, .slice ka4 kl4 kc4] 55
     obtain ⟨Dr, Dn, R, P⟩ := (fun o => And.intro (Dr.alloc o) (And.intro (Dn.alloc o) (And.intro (R.alloc o) (P.alloc o)))) (.cells #[.int .u8 xo, .bool xb, .slice sa sl sc, .slice ka4 kl4 kc4] 55)
     have X0le := X0.le
     have X0 := (X0.alloc (.cells #[.int .u8 xo, .bool xb, .slice sa sl sc, .slice ka4 kl4 kc4] 55))
     have X2le := X2.le
     have X2 := (X2.alloc (.cells #[.int .u8 xo, .bool xb, .slice sa sl sc, .slice ka4 kl4 kc4] 55))
     have X1le := X1.le
     have X1 := (X1.alloc (.cells #[.int .u8 xo, .bool xb, .slice sa sl sc, .slice ka4 kl4 kc4] 55))
     generalize (w1).alloc (.cells #[.int .u8 xo, .bool xb, .slice sa sl sc, .slice ka4 kl4 kc4] 55) = qopt at *
     have fn := Dn.f4
     have fk4 := Dk4.f4
     have fR := R.f
     go_quiet (fail)
     clear fn fk4 fR
     have Dr := (Dr.drewN nq)
     have Dn := (Dn.drewN nq)
     have Dk4 := (Dk4.drewN nq)
     have R := (R.drewN nq)
     have P := (P.drewN nq)
     have X0 := (X0.drewN nq)
     have X2 := (X2.drewN nq)
     have X1 := (X1.drewN nq)
     generalize (qopt).drewN nq = popt at *
     have fn := Dn.f4
     have fk4 := Dk4.f4
     have fR := R.f
     go_wp2_with fail
     have hX1q := X1.le
     clear fn fk4 fR
     have Dr : At ((popt).drew) (w.heap.size) [.int .u8 0, .bool false, .slice none 0 0, .slice none 0 0] := Dr.drew
     have Dn : At ((popt).drew) (nb) [.int .u8 38, .bool false, .slice none 0 0, .slice ka n kc] := Dn.drew
     have Dk4 : At ((popt).drew) (w1.heap.size) [.int .u8 xo, .bool xb, .slice sa sl sc, .slice ka4 kl4 kc4] := Dk4.drew
     have R := R.drew
     have P := P.drew
     have X0 := X0.drew
     have X2 := X2.drew
     have X1 := X1.drew
     refine wp_region_held_drew (S := fun u => At u b [.string s, .int .i64 ((k1 : Int)), .int .i64 (dz2), .int .i64 (0), .int .i64 (0)]) (by kernel_rfl) ?_ (fun hS => ?_)
     ·
      exact R.cells
     generalize (popt).drew = v1 at *
     refine tkH 0 hS ?_
     refine tkH 1 hS ?_
     refine tkH 2 hS ?_
     refine tkC 3 hS (fun _ h => h.f5) ?_
     refine tkH 4 hS ?_
     refine tkH 5 hS ?_
     refine tkH 6 hS ?_
     refine tkC 7 hS (fun _ h => h.f5) ?_
     refine tkH 8 hS ?_
     refine wpAnyH_ready (rs := [9]) (by kernel_rfl) (by simp) ?_
     refine' AllReadyH.cons (o := ?oor38) ?hor38 (fun K hK => ?str38) AllReadyH.nil
     case hor38 =>
      simp only [qa, qb, qc]
      exact rfl
     have fn := Dn.f4
     have fk4 := Dk4.f4
     have fR := R.f
     go_simp
     clear fn fk4 fR
     refine hK.out _ _ ?_ (fun hS => ?_)
     · exact R.cells
     clear hK K
     (try simp only [Act.put, qd, qe, qf])
     refine wpAnyH_ready (rs := [10]) (by kernel_rfl) (by simp) ?_
     refine' AllReadyH.cons (o := ?oor39) ?hor39 (fun K hK => ?str39) AllReadyH.nil
     case hor39 =>
      simp only [qa, qb, qc]
      exact rfl
     have fn := Dn.f4
     have fk4 := Dk4.f4
     have fR := R.f
     go_simp
     clear fn fk4 fR
     have ur2 := Dr.lt
     have un2 := Dn.lt
     have uk42 := Dk4.lt
     have uR2 := R.cells.lt
     have De5 := At.nw (v1) [.int .u8 xo, .bool xb, .slice sa sl sc, .slice ka4 kl4 kc4] 55
     obtain ⟨Dr, Dn, Dk4, R, P⟩ := (fun o => And.intro (Dr.alloc o) (And.intro (Dn.alloc o) (And.intro (Dk4.alloc o) (And.intro (R.alloc o) (P.alloc o))))) (.cells #[.int .u8 xo, .bool xb, .slice sa sl sc, .slice ka4 kl4 kc4] 55)
     have X0le := X0.le
     have X0 := (X0.alloc (.cells #[.int .u8 xo, .bool xb, .slice sa sl sc, .slice ka4 kl4 kc4] 55))
     have X2le := X2.le
     have X2 := (X2.alloc (.cells #[.int .u8 xo, .bool xb, .slice sa sl sc, .slice ka4 kl4 kc4] 55))
     have X1le := X1.le
     have X1 := (X1.alloc (.cells #[.int .u8 xo, .bool xb, .slice sa sl sc, .slice ka4 kl4 kc4] 55))
     refine hK.out _ _ ?_ (fun hS => ?_)
     · exact R.cells
     generalize (v1).alloc (.cells #[.int .u8 xo, .bool xb, .slice sa sl sc, .slice ka4 kl4 kc4] 55) = u16x at *
     clear hK K
     (try simp only [Act.put, qd, qe, qf])
     refine tkH 11 hS ?_
     refine wpAnyH_ready (rs := [12]) (by kernel_rfl) (by simp) ?_
     refine' AllReadyH.cons (o := ?oor41) ?hor41 (fun K hK => ?str41) AllReadyH.nil
     case hor41 =>
      simp only [qa, qb, qc]
      exact rfl
     have fn := Dn.f4
     have fk4 := Dk4.f4
     have fR := R.f
     go_simp
     clear fn fk4 fR
     obtain ⟨Dr, Dn, Dk4, De5, R, P, X0, X2, X1⟩ := (fun o0 o1 o2 o3 => And.intro (Dr.fars4 (w1.heap.size) (by omega) o0 o1 o2 o3) (And.intro (Dn.fars4 (w1.heap.size) (by omega) o0 o1 o2 o3) (And.intro (Dk4.puts4 o0 o1 o2 o3) (And.intro (De5.fars4 (w1.heap.size) (by omega) o0 o1 o2 o3) (And.intro (R.fars4 (w1.heap.size) (by omega) o0 o1 o2 o3) (And.intro (P.sets4 (w1.heap.size) (by omega) o0 o1 o2 o3) (And.intro (X0.sets4 (w1.heap.size) (by omega) o0 o1 o2 o3) (And.intro (X2.sets4 (w1.heap.size) (by omega) o0 o1 o2 o3) (X1.sets4 (w1.heap.size) (by omega) o0 o1 o2 o3))))))))) (.int .u8 63) (.bool false) (.slice none 0 0) (.slice (some ⟨v1.heap.size, 0, none⟩) 1 1)
     refine hK.out _ _ ?_ (fun hS => ?_)
     · exact R.cells
     generalize ((((u16x).setCell ⟨w1.heap.size, 0, none⟩ (.int .u8 63)).setCell ⟨w1.heap.size, 1, none⟩ (.bool false)).setCell ⟨w1.heap.size, 2, none⟩ (.slice none 0 0)).setCell ⟨w1.heap.size, 3, none⟩ (.slice (some ⟨v1.heap.size, 0, none⟩) 1 1) = u17x at *
     clear hK K
     (try simp only [Act.put, qd, qe, qf])
     refine wpAnyH_done (by kernel_rfl) ?_ _
     clear hS
     have fn := Dn.f4
     have fk4 := Dk4.f4
     have fR := R.f
     go_upto_region 7 with (fail)
     clear fn fk4 fR
     obtain ⟨Dr, Dn, Dk4, De5⟩ := (fun o => And.intro (Dr.far (b' := b) (j := 1) (by omega) o) (And.intro (Dn.far (b' := b) (j := 1) (by omega) o) (And.intro (Dk4.far (b' := b) (j := 1) (by omega) o) (De5.far (b' := b) (j := 1) (by omega) o)))) (.int .i64 ((k1 : Int) + 1))
     have R := (R.move (z' := (k1 : Int) + 1) (k' := k1 + 1) (by omega) (by omega))
     obtain ⟨P, X0, X2, X1⟩ := (fun o => And.intro (P.setCell (p := ⟨b, 1, none⟩) (.inr rfl) o) (And.intro (X0.setCell (p := ⟨b, 1, none⟩) (by dsimp only; omega) o) (And.intro (X2.setCell (p := ⟨b, 1, none⟩) (by dsimp only; omega) o) (X1.setCell (p := ⟨b, 1, none⟩) (by dsimp only; omega) o)))) (.int .i64 ((k1 : Int) + 1))
     generalize (u17x).setCell ⟨b, 1, none⟩ (.int .i64 ((k1 : Int) + 1)) = mopt at *
     have fn := Dn.f4
     have fk4 := Dk4.f4
     have fR := R.f
     by_cases hqt : l.length ≤ (k1 + 1)
     ·
      have dqt : decide ((l.length : Int) ≤ ((k1 + 1) : Int)) = true := decide_eq_true (by omega)
      have dlt : decide (((k1 + 1) : Int) < (l.length : Int)) = false := decide_eq_false (by omega)
      have dmt : decide ((k1 + 1) < l.length) = false := decide_eq_false (by omega)
      have dot : decide (l.length ≤ (k1 + 1)) = true := decide_eq_true (by omega)
      have O := O.keep X2.le X2.same
      clear X2
      go_wp2_with (at_builtin; refine wpList_append_own_at _ rfl _ _ 53 rfl bs 55 i0 (.agg #[.int .u8 0, .bool false, .slice none 0 0, .slice none 0 0]) 4 56 Tryz.underlying53 HI.out HZ.out HZ1.out HZ2.out rfl (by decide) _ _ _ rfl (O.own.alloc _) ⟨mopt.heap.size, 0, none⟩ 1 1 [.int .u8 63, .bool false, .slice none 0 0, .slice (some ⟨v1.heap.size, 0, none⟩) 1 1] rfl rfl (cells4_new _ _ _ _ _ _) ?j1opte ?j2opte ?j3opte ?j4opte ?_)
      case j1opte => first | (intro u hu; simp at hu; rcases hu with rfl | rfl | rfl | rfl <;> rfl) | exact ⟨rfl, rfl, rfl, rfl⟩
      case j2opte => have h1 := O.few; unfold maxLen; omega
      case j3opte => have h1 := O.few; omega
      case j4opte => (try simp); have h1 := X0.le; omega
      intro v' w1opte hown hgrow _ hor
      obtain ⟨ga, ca, rfl, hgaopte, hgbopte⟩ := hown.form (by omega)
      clear fn fk4 fR
      have hy := HN.out.keep (S' := fun x => bs ≤ x ∧ x < (mopt.alloc (.cells #[.int .u8 63, .bool false, .slice none 0 0, .slice (some ⟨v1.heap.size, 0, none⟩) 1 1] 55)).heap.size ∧ (Value.slice ka n kc).ownBlock ≠ some x) (w' := mopt.alloc (.cells #[.int .u8 63, .bool false, .slice none 0 0, .slice (some ⟨v1.heap.size, 0, none⟩) 1 1] 55)) (fun g hg => ⟨Nat.le_trans hble hg.1, Nat.lt_of_lt_of_le hg.2 (X1.alloc (.cells #[.int .u8 63, .bool false, .slice none 0 0, .slice (some ⟨v1.heap.size, 0, none⟩) 1 1] 55)).le, fun e2 => by have h1 := hown0 g e2; have h2 := hg.1; omega⟩) (fun g hg => (X1.alloc (.cells #[.int .u8 63, .bool false, .slice none 0 0, .slice (some ⟨v1.heap.size, 0, none⟩) 1 1] 55)).same g hg.1 hg.2)
      have hy5 : NodeIs (fun x => bs ≤ x ∧ x < (mopt.alloc (.cells #[.int .u8 63, .bool false, .slice none 0 0, .slice (some ⟨v1.heap.size, 0, none⟩) 1 1] 55)).heap.size ∧ (Value.slice ka n kc).ownBlock ≠ some x) (mopt.alloc (.cells #[.int .u8 63, .bool false, .slice none 0 0, .slice (some ⟨v1.heap.size, 0, none⟩) 1 1] 55)) (d2 + 1) ⟨63, false, none, 0, 0, some ⟨v1.heap.size, 0, none⟩, 1, 1⟩ (.opt p) :=
       Or.inr (Or.inr (Or.inr ⟨p, v1.heap.size, Or.inr (Or.inr ⟨rfl, rfl⟩), rfl, rfl, ⟨by omega, by have h1 := De5.lt; simp; omega, fun e2 => by have h1 := hown0 _ e2; omega⟩, ⟨xo, xb, sa, sl, sc, ka4, kl4, kc4⟩, hy, fun i v hv => (De5.alloc (.cells #[.int .u8 63, .bool false, .slice none 0 0, .slice (some ⟨v1.heap.size, 0, none⟩) 1 1] 55)).cell i v hv⟩))
      have Dr := grown_at hgrow (Dr.alloc (.cells #[.int .u8 63, .bool false, .slice none 0 0, .slice (some ⟨v1.heap.size, 0, none⟩) 1 1] 55)) (fun e2 => by have h1 := (O.lt _ e2).1; have h2 := hown0 _ e2; omega)
      have Dn := grown_at hgrow (Dn.alloc (.cells #[.int .u8 63, .bool false, .slice none 0 0, .slice (some ⟨v1.heap.size, 0, none⟩) 1 1] 55)) (fun e2 => by have h1 := (O.lt _ e2).1; have h2 := hown0 _ e2; omega)
      have Dk4 := grown_at hgrow (Dk4.alloc (.cells #[.int .u8 63, .bool false, .slice none 0 0, .slice (some ⟨v1.heap.size, 0, none⟩) 1 1] 55)) (fun e2 => by have h1 := (O.lt _ e2).1; have h2 := hown0 _ e2; omega)
      have De5 := grown_at hgrow (De5.alloc (.cells #[.int .u8 63, .bool false, .slice none 0 0, .slice (some ⟨v1.heap.size, 0, none⟩) 1 1] 55)) (fun e2 => by have h1 := (O.lt _ e2).1; have h2 := hown0 _ e2; omega)
      have X0 := (X0.alloc (.cells #[.int .u8 63, .bool false, .slice none 0 0, .slice (some ⟨v1.heap.size, 0, none⟩) 1 1] 55)).grown hgrow (fun g e2 => by have h1 := O.lt _ e2; have h2 := hown0 _ e2; omega)
      have X1 := (X1.alloc (.cells #[.int .u8 63, .bool false, .slice none 0 0, .slice (some ⟨v1.heap.size, 0, none⟩) 1 1] 55)).grown hgrow (fun g e2 => by have h1 := O.lt _ e2; have h2 := hown0 _ e2; omega)
      have R := (R.alloc (.cells #[.int .u8 63, .bool false, .slice none 0 0, .slice (some ⟨v1.heap.size, 0, none⟩) 1 1] 55)).grown hgrow (fun e2 => by have h1 := (O.lt _ e2).1; omega)
      have P := (P.alloc (.cells #[.int .u8 63, .bool false, .slice none 0 0, .slice (some ⟨v1.heap.size, 0, none⟩) 1 1] 55)).grown hgrow (fun g e2 => by have h1 := (O.lt _ e2).1; omega)
      have O := (O.alloc (.cells #[.int .u8 63, .bool false, .slice none 0 0, .slice (some ⟨v1.heap.size, 0, none⟩) 1 1] 55)).snoc (y := ⟨63, false, none, 0, 0, some ⟨v1.heap.size, 0, none⟩, 1, 1⟩) hown hgrow (hor.imp id (fun e => ⟨_, e, by simp⟩)) hy5 (by omega)
      clear hown hgrow hor
      have fn := Dn.f4
      have fk4 := Dk4.f4
      have fR := R.f
      go_wp2_with fail
      clear fn fk4 fR
      have Dr := (Dr.far (b' := nb) (j := 3) (by omega) (.slice (some ⟨ga, 0, none⟩) (n + 1) ca))
      have Dn : At ((w1opte).setCell ⟨nb, 3, none⟩ (.slice (some ⟨ga, 0, none⟩) (n + 1) ca)) (nb) [.int .u8 38, .bool false, .slice none 0 0, .slice (some ⟨ga, 0, none⟩) (n + 1) ca] := (Dn.set 3 (.slice (some ⟨ga, 0, none⟩) (n + 1) ca))
      obtain ⟨R, P, O, X0, X1⟩ := (fun o => And.intro (R.far (c := nb) 3 (by omega) o) (And.intro (P.setCell (p := ⟨nb, 3, none⟩) (.inl (by dsimp only; omega)) o) (And.intro (O.setCell (p := ⟨nb, 3, none⟩) (by dsimp only; omega) o) (And.intro (X0.setCell (p := ⟨nb, 3, none⟩) (by dsimp only; omega) o) (X1.setCell (p := ⟨nb, 3, none⟩) (by dsimp only; omega) o))))) (.slice (some ⟨ga, 0, none⟩) (n + 1) ca)
      generalize (w1opte).setCell ⟨nb, 3, none⟩ (.slice (some ⟨ga, 0, none⟩) (n + 1) ca) = yopte at *
      have fn := Dn.f4
      have fR := R.f
      go_quiet (fail)
      clear fn fR
      have Dr := (Dr.drewN nq)
      have Dn := (Dn.drewN nq)
      have R := (R.drewN nq)
      have P := (P.drewN nq)
      have O := (O.drewN nq)
      have X0 := (X0.drewN nq)
      have X1 := (X1.drewN nq)
      generalize (yopte).drewN nq = zopte at *
      have fr := Dr.f4
      have fn := Dn.f4
      have fR := R.f
      go_upto_region 9 with (fail)
      repeat go_step
      clear fr fn fR
      obtain ⟨Dr, Dn, R, P, O, X0, X1⟩ := (fun o0 o1 o2 o3 => And.intro (Dr.puts4 o0 o1 o2 o3) (And.intro (Dn.fars4 (w.heap.size) (by omega) o0 o1 o2 o3) (And.intro (R.fars4 (w.heap.size) (by omega) o0 o1 o2 o3) (And.intro (P.sets4 (w.heap.size) (by omega) o0 o1 o2 o3) (And.intro (O.sets4 (w.heap.size) (by omega) o0 o1 o2 o3) (And.intro (X0.sets4 (w.heap.size) (by omega) o0 o1 o2 o3) (X1.sets4 (w.heap.size) (by omega) o0 o1 o2 o3))))))) (.int .u8 38) (.bool false) (.slice none 0 0) (.slice (some ⟨ga, 0, none⟩) (n + 1) ca)
      generalize ((((zopte).setCell ⟨w.heap.size, 0, none⟩ (.int .u8 38)).setCell ⟨w.heap.size, 1, none⟩ (.bool false)).setCell ⟨w.heap.size, 2, none⟩ (.slice none 0 0)).setCell ⟨w.heap.size, 3, none⟩ (.slice (some ⟨ga, 0, none⟩) (n + 1) ca) = fopte at *
      have fr := Dr.f4
      have fn := Dn.f4
      have fR := R.f
      refine bodyPost_ret (v := ndV ⟨38, false, none, 0, 0, some ⟨ga, 0, none⟩, n + 1, ca⟩) (by simp [results, Tryz.results50, go_sem, fr]; try rfl) rfl ?_
      have hTe := ro_end HST.out (part_opt HS1.out HR.out) (Or.inl hqt)
      have hnode := O.node (by omega) (by omega) (S := Rng w fopte) (fun x hx => ⟨by have := hx.1; omega, hx.2⟩) (o := 38) (p := (ps ++ [(Rx.Pt.opt p)]).foldl .seq .eps) (Or.inr ⟨rfl, rfl⟩)
      rw [hTe]
      exact ⟨⟨38, false, none, 0, 0, some ⟨ga, 0, none⟩, n + 1, ca⟩, _, _, _, _, _, rfl, R, P, rfl, rfl, rfl, _, hnode⟩
     by_cases h124t : Rx.pk l (k1 + 1) = 124
     ·
      have hxt := pk_byteAt R.txt (k1 + 1) (by omega)
      rw [h124t] at hxt
      have hqlt : ((k1 + 1) : Int) < (l.length : Int) := by omega
      have hqnt : ¬ ((l.length : Int) ≤ ((k1 + 1) : Int)) := by omega
      have hqmt : (0 : Int) ≤ ((k1 + 1) : Int) := by omega
      have dqt : decide ((l.length : Int) ≤ ((k1 + 1) : Int)) = false := decide_eq_false hqnt
      have dlt : decide (((k1 + 1) : Int) < (l.length : Int)) = true := decide_eq_true hqlt
      have HEt := Lib.hid h124t
      clear h124t
      have O := O.keep X2.le X2.same
      clear X2
      go_wp2_with (at_builtin; refine wpList_append_own_at _ rfl _ _ 53 rfl bs 55 i0 (.agg #[.int .u8 0, .bool false, .slice none 0 0, .slice none 0 0]) 4 56 Tryz.underlying53 HI.out HZ.out HZ1.out HZ2.out rfl (by decide) _ _ _ rfl (O.own.alloc _) ⟨mopt.heap.size, 0, none⟩ 1 1 [.int .u8 63, .bool false, .slice none 0 0, .slice (some ⟨v1.heap.size, 0, none⟩) 1 1] rfl rfl (cells4_new _ _ _ _ _ _) ?j1opts ?j2opts ?j3opts ?j4opts ?_)
      case j1opts => first | (intro u hu; simp at hu; rcases hu with rfl | rfl | rfl | rfl <;> rfl) | exact ⟨rfl, rfl, rfl, rfl⟩
      case j2opts => have h1 := O.few; unfold maxLen; omega
      case j3opts => have h1 := O.few; omega
      case j4opts => (try simp); have h1 := X0.le; omega
      intro v' w1opts hown hgrow _ hor
      obtain ⟨ga, ca, rfl, hgaopts, hgbopts⟩ := hown.form (by omega)
      clear fn fk4 fR
      have hy := HN.out.keep (S' := fun x => bs ≤ x ∧ x < (mopt.alloc (.cells #[.int .u8 63, .bool false, .slice none 0 0, .slice (some ⟨v1.heap.size, 0, none⟩) 1 1] 55)).heap.size ∧ (Value.slice ka n kc).ownBlock ≠ some x) (w' := mopt.alloc (.cells #[.int .u8 63, .bool false, .slice none 0 0, .slice (some ⟨v1.heap.size, 0, none⟩) 1 1] 55)) (fun g hg => ⟨Nat.le_trans hble hg.1, Nat.lt_of_lt_of_le hg.2 (X1.alloc (.cells #[.int .u8 63, .bool false, .slice none 0 0, .slice (some ⟨v1.heap.size, 0, none⟩) 1 1] 55)).le, fun e2 => by have h1 := hown0 g e2; have h2 := hg.1; omega⟩) (fun g hg => (X1.alloc (.cells #[.int .u8 63, .bool false, .slice none 0 0, .slice (some ⟨v1.heap.size, 0, none⟩) 1 1] 55)).same g hg.1 hg.2)
      have hy5 : NodeIs (fun x => bs ≤ x ∧ x < (mopt.alloc (.cells #[.int .u8 63, .bool false, .slice none 0 0, .slice (some ⟨v1.heap.size, 0, none⟩) 1 1] 55)).heap.size ∧ (Value.slice ka n kc).ownBlock ≠ some x) (mopt.alloc (.cells #[.int .u8 63, .bool false, .slice none 0 0, .slice (some ⟨v1.heap.size, 0, none⟩) 1 1] 55)) (d2 + 1) ⟨63, false, none, 0, 0, some ⟨v1.heap.size, 0, none⟩, 1, 1⟩ (.opt p) :=
       Or.inr (Or.inr (Or.inr ⟨p, v1.heap.size, Or.inr (Or.inr ⟨rfl, rfl⟩), rfl, rfl, ⟨by omega, by have h1 := De5.lt; simp; omega, fun e2 => by have h1 := hown0 _ e2; omega⟩, ⟨xo, xb, sa, sl, sc, ka4, kl4, kc4⟩, hy, fun i v hv => (De5.alloc (.cells #[.int .u8 63, .bool false, .slice none 0 0, .slice (some ⟨v1.heap.size, 0, none⟩) 1 1] 55)).cell i v hv⟩))
      have Dr := grown_at hgrow (Dr.alloc (.cells #[.int .u8 63, .bool false, .slice none 0 0, .slice (some ⟨v1.heap.size, 0, none⟩) 1 1] 55)) (fun e2 => by have h1 := (O.lt _ e2).1; have h2 := hown0 _ e2; omega)
      have Dn := grown_at hgrow (Dn.alloc (.cells #[.int .u8 63, .bool false, .slice none 0 0, .slice (some ⟨v1.heap.size, 0, none⟩) 1 1] 55)) (fun e2 => by have h1 := (O.lt _ e2).1; have h2 := hown0 _ e2; omega)
      have Dk4 := grown_at hgrow (Dk4.alloc (.cells #[.int .u8 63, .bool false, .slice none 0 0, .slice (some ⟨v1.heap.size, 0, none⟩) 1 1] 55)) (fun e2 => by have h1 := (O.lt _ e2).1; have h2 := hown0 _ e2; omega)
      have De5 := grown_at hgrow (De5.alloc (.cells #[.int .u8 63, .bool false, .slice none 0 0, .slice (some ⟨v1.heap.size, 0, none⟩) 1 1] 55)) (fun e2 => by have h1 := (O.lt _ e2).1; have h2 := hown0 _ e2; omega)
      have X0 := (X0.alloc (.cells #[.int .u8 63, .bool false, .slice none 0 0, .slice (some ⟨v1.heap.size, 0, none⟩) 1 1] 55)).grown hgrow (fun g e2 => by have h1 := O.lt _ e2; have h2 := hown0 _ e2; omega)
      have X1 := (X1.alloc (.cells #[.int .u8 63, .bool false, .slice none 0 0, .slice (some ⟨v1.heap.size, 0, none⟩) 1 1] 55)).grown hgrow (fun g e2 => by have h1 := O.lt _ e2; have h2 := hown0 _ e2; omega)
      have R := (R.alloc (.cells #[.int .u8 63, .bool false, .slice none 0 0, .slice (some ⟨v1.heap.size, 0, none⟩) 1 1] 55)).grown hgrow (fun e2 => by have h1 := (O.lt _ e2).1; omega)
      have P := (P.alloc (.cells #[.int .u8 63, .bool false, .slice none 0 0, .slice (some ⟨v1.heap.size, 0, none⟩) 1 1] 55)).grown hgrow (fun g e2 => by have h1 := (O.lt _ e2).1; omega)
      have O := (O.alloc (.cells #[.int .u8 63, .bool false, .slice none 0 0, .slice (some ⟨v1.heap.size, 0, none⟩) 1 1] 55)).snoc (y := ⟨63, false, none, 0, 0, some ⟨v1.heap.size, 0, none⟩, 1, 1⟩) hown hgrow (hor.imp id (fun e => ⟨_, e, by simp⟩)) hy5 (by omega)
      clear hown hgrow hor
      have fn := Dn.f4
      have fk4 := Dk4.f4
      have fR := R.f
      go_wp2_with fail
      clear fn fk4 fR
      have Dr := (Dr.far (b' := nb) (j := 3) (by omega) (.slice (some ⟨ga, 0, none⟩) (n + 1) ca))
      have Dn : At ((w1opts).setCell ⟨nb, 3, none⟩ (.slice (some ⟨ga, 0, none⟩) (n + 1) ca)) (nb) [.int .u8 38, .bool false, .slice none 0 0, .slice (some ⟨ga, 0, none⟩) (n + 1) ca] := (Dn.set 3 (.slice (some ⟨ga, 0, none⟩) (n + 1) ca))
      obtain ⟨R, P, O, X0, X1⟩ := (fun o => And.intro (R.far (c := nb) 3 (by omega) o) (And.intro (P.setCell (p := ⟨nb, 3, none⟩) (.inl (by dsimp only; omega)) o) (And.intro (O.setCell (p := ⟨nb, 3, none⟩) (by dsimp only; omega) o) (And.intro (X0.setCell (p := ⟨nb, 3, none⟩) (by dsimp only; omega) o) (X1.setCell (p := ⟨nb, 3, none⟩) (by dsimp only; omega) o))))) (.slice (some ⟨ga, 0, none⟩) (n + 1) ca)
      generalize (w1opts).setCell ⟨nb, 3, none⟩ (.slice (some ⟨ga, 0, none⟩) (n + 1) ca) = yopts at *
      have fn := Dn.f4
      have fR := R.f
      go_quiet (fail)
      clear fn fR
      have Dr := (Dr.drewN nq)
      have Dn := (Dn.drewN nq)
      have R := (R.drewN nq)
      have P := (P.drewN nq)
      have O := (O.drewN nq)
      have X0 := (X0.drewN nq)
      have X1 := (X1.drewN nq)
      generalize (yopts).drewN nq = zopts at *
      have fr := Dr.f4
      have fn := Dn.f4
      have fR := R.f
      go_upto_region 9 with (fail)
      repeat go_step
      clear fr fn fR
      obtain ⟨Dr, Dn, R, P, O, X0, X1⟩ := (fun o0 o1 o2 o3 => And.intro (Dr.puts4 o0 o1 o2 o3) (And.intro (Dn.fars4 (w.heap.size) (by omega) o0 o1 o2 o3) (And.intro (R.fars4 (w.heap.size) (by omega) o0 o1 o2 o3) (And.intro (P.sets4 (w.heap.size) (by omega) o0 o1 o2 o3) (And.intro (O.sets4 (w.heap.size) (by omega) o0 o1 o2 o3) (And.intro (X0.sets4 (w.heap.size) (by omega) o0 o1 o2 o3) (X1.sets4 (w.heap.size) (by omega) o0 o1 o2 o3))))))) (.int .u8 38) (.bool false) (.slice none 0 0) (.slice (some ⟨ga, 0, none⟩) (n + 1) ca)
      generalize ((((zopts).setCell ⟨w.heap.size, 0, none⟩ (.int .u8 38)).setCell ⟨w.heap.size, 1, none⟩ (.bool false)).setCell ⟨w.heap.size, 2, none⟩ (.slice none 0 0)).setCell ⟨w.heap.size, 3, none⟩ (.slice (some ⟨ga, 0, none⟩) (n + 1) ca) = fopts at *
      have fr := Dr.f4
      have fn := Dn.f4
      have fR := R.f
      refine bodyPost_ret (v := ndV ⟨38, false, none, 0, 0, some ⟨ga, 0, none⟩, n + 1, ca⟩) (by simp [results, Tryz.results50, go_sem, fr]; try rfl) rfl ?_
      have hTe := ro_end HST.out (part_opt HS1.out HR.out) (Or.inr (Or.inl HEt.out))
      have hnode := O.node (by omega) (by omega) (S := Rng w fopts) (fun x hx => ⟨by have := hx.1; omega, hx.2⟩) (o := 38) (p := (ps ++ [(Rx.Pt.opt p)]).foldl .seq .eps) (Or.inr ⟨rfl, rfl⟩)
      rw [hTe]
      exact ⟨⟨38, false, none, 0, 0, some ⟨ga, 0, none⟩, n + 1, ca⟩, _, _, _, _, _, rfl, R, P, rfl, rfl, rfl, _, hnode⟩
     by_cases h41t : Rx.pk l (k1 + 1) = 41
     ·
      have hxt := pk_byteAt R.txt (k1 + 1) (by omega)
      rw [h41t] at hxt
      have hqlt : ((k1 + 1) : Int) < (l.length : Int) := by omega
      have hqnt : ¬ ((l.length : Int) ≤ ((k1 + 1) : Int)) := by omega
      have hqmt : (0 : Int) ≤ ((k1 + 1) : Int) := by omega
      have dqt : decide ((l.length : Int) ≤ ((k1 + 1) : Int)) = false := decide_eq_false hqnt
      have dlt : decide (((k1 + 1) : Int) < (l.length : Int)) = true := decide_eq_true hqlt
      have HEt := Lib.hid h41t
      have HNt := Lib.hid h124t
      clear h41t h124t
      have O := O.keep X2.le X2.same
      clear X2
      go_wp2_with (at_builtin; refine wpList_append_own_at _ rfl _ _ 53 rfl bs 55 i0 (.agg #[.int .u8 0, .bool false, .slice none 0 0, .slice none 0 0]) 4 56 Tryz.underlying53 HI.out HZ.out HZ1.out HZ2.out rfl (by decide) _ _ _ rfl (O.own.alloc _) ⟨mopt.heap.size, 0, none⟩ 1 1 [.int .u8 63, .bool false, .slice none 0 0, .slice (some ⟨v1.heap.size, 0, none⟩) 1 1] rfl rfl (cells4_new _ _ _ _ _ _) ?j1optb ?j2optb ?j3optb ?j4optb ?_)
      case j1optb => first | (intro u hu; simp at hu; rcases hu with rfl | rfl | rfl | rfl <;> rfl) | exact ⟨rfl, rfl, rfl, rfl⟩
      case j2optb => have h1 := O.few; unfold maxLen; omega
      case j3optb => have h1 := O.few; omega
      case j4optb => (try simp); have h1 := X0.le; omega
      intro v' w1optb hown hgrow _ hor
      obtain ⟨ga, ca, rfl, hgaoptb, hgboptb⟩ := hown.form (by omega)
      clear fn fk4 fR
      have hy := HN.out.keep (S' := fun x => bs ≤ x ∧ x < (mopt.alloc (.cells #[.int .u8 63, .bool false, .slice none 0 0, .slice (some ⟨v1.heap.size, 0, none⟩) 1 1] 55)).heap.size ∧ (Value.slice ka n kc).ownBlock ≠ some x) (w' := mopt.alloc (.cells #[.int .u8 63, .bool false, .slice none 0 0, .slice (some ⟨v1.heap.size, 0, none⟩) 1 1] 55)) (fun g hg => ⟨Nat.le_trans hble hg.1, Nat.lt_of_lt_of_le hg.2 (X1.alloc (.cells #[.int .u8 63, .bool false, .slice none 0 0, .slice (some ⟨v1.heap.size, 0, none⟩) 1 1] 55)).le, fun e2 => by have h1 := hown0 g e2; have h2 := hg.1; omega⟩) (fun g hg => (X1.alloc (.cells #[.int .u8 63, .bool false, .slice none 0 0, .slice (some ⟨v1.heap.size, 0, none⟩) 1 1] 55)).same g hg.1 hg.2)
      have hy5 : NodeIs (fun x => bs ≤ x ∧ x < (mopt.alloc (.cells #[.int .u8 63, .bool false, .slice none 0 0, .slice (some ⟨v1.heap.size, 0, none⟩) 1 1] 55)).heap.size ∧ (Value.slice ka n kc).ownBlock ≠ some x) (mopt.alloc (.cells #[.int .u8 63, .bool false, .slice none 0 0, .slice (some ⟨v1.heap.size, 0, none⟩) 1 1] 55)) (d2 + 1) ⟨63, false, none, 0, 0, some ⟨v1.heap.size, 0, none⟩, 1, 1⟩ (.opt p) :=
       Or.inr (Or.inr (Or.inr ⟨p, v1.heap.size, Or.inr (Or.inr ⟨rfl, rfl⟩), rfl, rfl, ⟨by omega, by have h1 := De5.lt; simp; omega, fun e2 => by have h1 := hown0 _ e2; omega⟩, ⟨xo, xb, sa, sl, sc, ka4, kl4, kc4⟩, hy, fun i v hv => (De5.alloc (.cells #[.int .u8 63, .bool false, .slice none 0 0, .slice (some ⟨v1.heap.size, 0, none⟩) 1 1] 55)).cell i v hv⟩))
      have Dr := grown_at hgrow (Dr.alloc (.cells #[.int .u8 63, .bool false, .slice none 0 0, .slice (some ⟨v1.heap.size, 0, none⟩) 1 1] 55)) (fun e2 => by have h1 := (O.lt _ e2).1; have h2 := hown0 _ e2; omega)
      have Dn := grown_at hgrow (Dn.alloc (.cells #[.int .u8 63, .bool false, .slice none 0 0, .slice (some ⟨v1.heap.size, 0, none⟩) 1 1] 55)) (fun e2 => by have h1 := (O.lt _ e2).1; have h2 := hown0 _ e2; omega)
      have Dk4 := grown_at hgrow (Dk4.alloc (.cells #[.int .u8 63, .bool false, .slice none 0 0, .slice (some ⟨v1.heap.size, 0, none⟩) 1 1] 55)) (fun e2 => by have h1 := (O.lt _ e2).1; have h2 := hown0 _ e2; omega)
      have De5 := grown_at hgrow (De5.alloc (.cells #[.int .u8 63, .bool false, .slice none 0 0, .slice (some ⟨v1.heap.size, 0, none⟩) 1 1] 55)) (fun e2 => by have h1 := (O.lt _ e2).1; have h2 := hown0 _ e2; omega)
      have X0 := (X0.alloc (.cells #[.int .u8 63, .bool false, .slice none 0 0, .slice (some ⟨v1.heap.size, 0, none⟩) 1 1] 55)).grown hgrow (fun g e2 => by have h1 := O.lt _ e2; have h2 := hown0 _ e2; omega)
      have X1 := (X1.alloc (.cells #[.int .u8 63, .bool false, .slice none 0 0, .slice (some ⟨v1.heap.size, 0, none⟩) 1 1] 55)).grown hgrow (fun g e2 => by have h1 := O.lt _ e2; have h2 := hown0 _ e2; omega)
      have R := (R.alloc (.cells #[.int .u8 63, .bool false, .slice none 0 0, .slice (some ⟨v1.heap.size, 0, none⟩) 1 1] 55)).grown hgrow (fun e2 => by have h1 := (O.lt _ e2).1; omega)
      have P := (P.alloc (.cells #[.int .u8 63, .bool false, .slice none 0 0, .slice (some ⟨v1.heap.size, 0, none⟩) 1 1] 55)).grown hgrow (fun g e2 => by have h1 := (O.lt _ e2).1; omega)
      have O := (O.alloc (.cells #[.int .u8 63, .bool false, .slice none 0 0, .slice (some ⟨v1.heap.size, 0, none⟩) 1 1] 55)).snoc (y := ⟨63, false, none, 0, 0, some ⟨v1.heap.size, 0, none⟩, 1, 1⟩) hown hgrow (hor.imp id (fun e => ⟨_, e, by simp⟩)) hy5 (by omega)
      clear hown hgrow hor
      have fn := Dn.f4
      have fk4 := Dk4.f4
      have fR := R.f
      go_wp2_with fail
      clear fn fk4 fR
      have Dr := (Dr.far (b' := nb) (j := 3) (by omega) (.slice (some ⟨ga, 0, none⟩) (n + 1) ca))
      have Dn : At ((w1optb).setCell ⟨nb, 3, none⟩ (.slice (some ⟨ga, 0, none⟩) (n + 1) ca)) (nb) [.int .u8 38, .bool false, .slice none 0 0, .slice (some ⟨ga, 0, none⟩) (n + 1) ca] := (Dn.set 3 (.slice (some ⟨ga, 0, none⟩) (n + 1) ca))
      obtain ⟨R, P, O, X0, X1⟩ := (fun o => And.intro (R.far (c := nb) 3 (by omega) o) (And.intro (P.setCell (p := ⟨nb, 3, none⟩) (.inl (by dsimp only; omega)) o) (And.intro (O.setCell (p := ⟨nb, 3, none⟩) (by dsimp only; omega) o) (And.intro (X0.setCell (p := ⟨nb, 3, none⟩) (by dsimp only; omega) o) (X1.setCell (p := ⟨nb, 3, none⟩) (by dsimp only; omega) o))))) (.slice (some ⟨ga, 0, none⟩) (n + 1) ca)
      generalize (w1optb).setCell ⟨nb, 3, none⟩ (.slice (some ⟨ga, 0, none⟩) (n + 1) ca) = yoptb at *
      have fn := Dn.f4
      have fR := R.f
      go_quiet (fail)
      clear fn fR
      have Dr := (Dr.drewN nq)
      have Dn := (Dn.drewN nq)
      have R := (R.drewN nq)
      have P := (P.drewN nq)
      have O := (O.drewN nq)
      have X0 := (X0.drewN nq)
      have X1 := (X1.drewN nq)
      generalize (yoptb).drewN nq = zoptb at *
      have fr := Dr.f4
      have fn := Dn.f4
      have fR := R.f
      go_upto_region 9 with (fail)
      repeat go_step
      clear fr fn fR
      obtain ⟨Dr, Dn, R, P, O, X0, X1⟩ := (fun o0 o1 o2 o3 => And.intro (Dr.puts4 o0 o1 o2 o3) (And.intro (Dn.fars4 (w.heap.size) (by omega) o0 o1 o2 o3) (And.intro (R.fars4 (w.heap.size) (by omega) o0 o1 o2 o3) (And.intro (P.sets4 (w.heap.size) (by omega) o0 o1 o2 o3) (And.intro (O.sets4 (w.heap.size) (by omega) o0 o1 o2 o3) (And.intro (X0.sets4 (w.heap.size) (by omega) o0 o1 o2 o3) (X1.sets4 (w.heap.size) (by omega) o0 o1 o2 o3))))))) (.int .u8 38) (.bool false) (.slice none 0 0) (.slice (some ⟨ga, 0, none⟩) (n + 1) ca)
      generalize ((((zoptb).setCell ⟨w.heap.size, 0, none⟩ (.int .u8 38)).setCell ⟨w.heap.size, 1, none⟩ (.bool false)).setCell ⟨w.heap.size, 2, none⟩ (.slice none 0 0)).setCell ⟨w.heap.size, 3, none⟩ (.slice (some ⟨ga, 0, none⟩) (n + 1) ca) = foptb at *
      have fr := Dr.f4
      have fn := Dn.f4
      have fR := R.f
      refine bodyPost_ret (v := ndV ⟨38, false, none, 0, 0, some ⟨ga, 0, none⟩, n + 1, ca⟩) (by simp [results, Tryz.results50, go_sem, fr]; try rfl) rfl ?_
      have hTe := ro_end HST.out (part_opt HS1.out HR.out) (Or.inr (Or.inr HEt.out))
      have hnode := O.node (by omega) (by omega) (S := Rng w foptb) (fun x hx => ⟨by have := hx.1; omega, hx.2⟩) (o := 38) (p := (ps ++ [(Rx.Pt.opt p)]).foldl .seq .eps) (Or.inr ⟨rfl, rfl⟩)
      rw [hTe]
      exact ⟨⟨38, false, none, 0, 0, some ⟨ga, 0, none⟩, n + 1, ca⟩, _, _, _, _, _, rfl, R, P, rfl, rfl, rfl, _, hnode⟩
     have hxt := pk_byteAt R.txt (k1 + 1) (by omega)
     obtain ⟨xt, hxxt⟩ : ∃ x, Rx.pk l (k1 + 1) = x := ⟨_, rfl⟩
     rw [hxxt] at hxt
     have d124t : ((xt : Int) == 124) = false := by rw [beq_eq_false_iff_ne]; omega
     have d41t : ((xt : Int) == 41) = false := by rw [beq_eq_false_iff_ne]; omega
     clear hxxt
     have hqlt : ((k1 + 1) : Int) < (l.length : Int) := by omega
     have hqnt : ¬ ((l.length : Int) ≤ ((k1 + 1) : Int)) := by omega
     have hqmt : (0 : Int) ≤ ((k1 + 1) : Int) := by omega
     have dqt : decide ((l.length : Int) ≤ ((k1 + 1) : Int)) = false := decide_eq_false hqnt
     have dlt : decide (((k1 + 1) : Int) < (l.length : Int)) = true := decide_eq_true hqlt
     have HNt := Lib.hid h124t
     have HMt := Lib.hid h41t
     clear h41t h124t
     have O := O.keep X2.le X2.same
     clear X2
     go_wp2_with (at_builtin; refine wpList_append_own_at _ rfl _ _ 53 rfl bs 55 i0 (.agg #[.int .u8 0, .bool false, .slice none 0 0, .slice none 0 0]) 4 56 Tryz.underlying53 HI.out HZ.out HZ1.out HZ2.out rfl (by decide) _ _ _ rfl (O.own.alloc _) ⟨mopt.heap.size, 0, none⟩ 1 1 [.int .u8 63, .bool false, .slice none 0 0, .slice (some ⟨v1.heap.size, 0, none⟩) 1 1] rfl rfl (cells4_new _ _ _ _ _ _) ?j1opto ?j2opto ?j3opto ?j4opto ?_)
     case j1opto => first | (intro u hu; simp at hu; rcases hu with rfl | rfl | rfl | rfl <;> rfl) | exact ⟨rfl, rfl, rfl, rfl⟩
     case j2opto => have h1 := O.few; unfold maxLen; omega
     case j3opto => have h1 := O.few; omega
     case j4opto => (try simp); have h1 := X0.le; omega
     intro v' w1opto hown hgrow _ hor
     obtain ⟨ga, ca, rfl, hgaopto, hgbopto⟩ := hown.form (by omega)
     clear fn fk4 fR
     have hy := HN.out.keep (S' := fun x => bs ≤ x ∧ x < (mopt.alloc (.cells #[.int .u8 63, .bool false, .slice none 0 0, .slice (some ⟨v1.heap.size, 0, none⟩) 1 1] 55)).heap.size ∧ (Value.slice ka n kc).ownBlock ≠ some x) (w' := mopt.alloc (.cells #[.int .u8 63, .bool false, .slice none 0 0, .slice (some ⟨v1.heap.size, 0, none⟩) 1 1] 55)) (fun g hg => ⟨Nat.le_trans hble hg.1, Nat.lt_of_lt_of_le hg.2 (X1.alloc (.cells #[.int .u8 63, .bool false, .slice none 0 0, .slice (some ⟨v1.heap.size, 0, none⟩) 1 1] 55)).le, fun e2 => by have h1 := hown0 g e2; have h2 := hg.1; omega⟩) (fun g hg => (X1.alloc (.cells #[.int .u8 63, .bool false, .slice none 0 0, .slice (some ⟨v1.heap.size, 0, none⟩) 1 1] 55)).same g hg.1 hg.2)
     have hy5 : NodeIs (fun x => bs ≤ x ∧ x < (mopt.alloc (.cells #[.int .u8 63, .bool false, .slice none 0 0, .slice (some ⟨v1.heap.size, 0, none⟩) 1 1] 55)).heap.size ∧ (Value.slice ka n kc).ownBlock ≠ some x) (mopt.alloc (.cells #[.int .u8 63, .bool false, .slice none 0 0, .slice (some ⟨v1.heap.size, 0, none⟩) 1 1] 55)) (d2 + 1) ⟨63, false, none, 0, 0, some ⟨v1.heap.size, 0, none⟩, 1, 1⟩ (.opt p) :=
      Or.inr (Or.inr (Or.inr ⟨p, v1.heap.size, Or.inr (Or.inr ⟨rfl, rfl⟩), rfl, rfl, ⟨by omega, by have h1 := De5.lt; simp; omega, fun e2 => by have h1 := hown0 _ e2; omega⟩, ⟨xo, xb, sa, sl, sc, ka4, kl4, kc4⟩, hy, fun i v hv => (De5.alloc (.cells #[.int .u8 63, .bool false, .slice none 0 0, .slice (some ⟨v1.heap.size, 0, none⟩) 1 1] 55)).cell i v hv⟩))
     have Dr := grown_at hgrow (Dr.alloc (.cells #[.int .u8 63, .bool false, .slice none 0 0, .slice (some ⟨v1.heap.size, 0, none⟩) 1 1] 55)) (fun e2 => by have h1 := (O.lt _ e2).1; have h2 := hown0 _ e2; omega)
     have Dn := grown_at hgrow (Dn.alloc (.cells #[.int .u8 63, .bool false, .slice none 0 0, .slice (some ⟨v1.heap.size, 0, none⟩) 1 1] 55)) (fun e2 => by have h1 := (O.lt _ e2).1; have h2 := hown0 _ e2; omega)
     have Dk4 := grown_at hgrow (Dk4.alloc (.cells #[.int .u8 63, .bool false, .slice none 0 0, .slice (some ⟨v1.heap.size, 0, none⟩) 1 1] 55)) (fun e2 => by have h1 := (O.lt _ e2).1; have h2 := hown0 _ e2; omega)
     have De5 := grown_at hgrow (De5.alloc (.cells #[.int .u8 63, .bool false, .slice none 0 0, .slice (some ⟨v1.heap.size, 0, none⟩) 1 1] 55)) (fun e2 => by have h1 := (O.lt _ e2).1; have h2 := hown0 _ e2; omega)
     have X0 := (X0.alloc (.cells #[.int .u8 63, .bool false, .slice none 0 0, .slice (some ⟨v1.heap.size, 0, none⟩) 1 1] 55)).grown hgrow (fun g e2 => by have h1 := O.lt _ e2; have h2 := hown0 _ e2; omega)
     have X1 := (X1.alloc (.cells #[.int .u8 63, .bool false, .slice none 0 0, .slice (some ⟨v1.heap.size, 0, none⟩) 1 1] 55)).grown hgrow (fun g e2 => by have h1 := O.lt _ e2; have h2 := hown0 _ e2; omega)
     have R := (R.alloc (.cells #[.int .u8 63, .bool false, .slice none 0 0, .slice (some ⟨v1.heap.size, 0, none⟩) 1 1] 55)).grown hgrow (fun e2 => by have h1 := (O.lt _ e2).1; omega)
     have P := (P.alloc (.cells #[.int .u8 63, .bool false, .slice none 0 0, .slice (some ⟨v1.heap.size, 0, none⟩) 1 1] 55)).grown hgrow (fun g e2 => by have h1 := (O.lt _ e2).1; omega)
     have O := (O.alloc (.cells #[.int .u8 63, .bool false, .slice none 0 0, .slice (some ⟨v1.heap.size, 0, none⟩) 1 1] 55)).snoc (y := ⟨63, false, none, 0, 0, some ⟨v1.heap.size, 0, none⟩, 1, 1⟩) hown hgrow (hor.imp id (fun e => ⟨_, e, by simp⟩)) hy5 (by omega)
     clear hown hgrow hor
     have fn := Dn.f4
     have fk4 := Dk4.f4
     have fR := R.f
     go_wp2_with fail
     clear fn fk4 fR
     have Dr := (Dr.far (b' := nb) (j := 3) (by omega) (.slice (some ⟨ga, 0, none⟩) (n + 1) ca))
     have Dn : At ((w1opto).setCell ⟨nb, 3, none⟩ (.slice (some ⟨ga, 0, none⟩) (n + 1) ca)) (nb) [.int .u8 38, .bool false, .slice none 0 0, .slice (some ⟨ga, 0, none⟩) (n + 1) ca] := (Dn.set 3 (.slice (some ⟨ga, 0, none⟩) (n + 1) ca))
     obtain ⟨R, P, O, X0, X1⟩ := (fun o => And.intro (R.far (c := nb) 3 (by omega) o) (And.intro (P.setCell (p := ⟨nb, 3, none⟩) (.inl (by dsimp only; omega)) o) (And.intro (O.setCell (p := ⟨nb, 3, none⟩) (by dsimp only; omega) o) (And.intro (X0.setCell (p := ⟨nb, 3, none⟩) (by dsimp only; omega) o) (X1.setCell (p := ⟨nb, 3, none⟩) (by dsimp only; omega) o))))) (.slice (some ⟨ga, 0, none⟩) (n + 1) ca)
     generalize (w1opto).setCell ⟨nb, 3, none⟩ (.slice (some ⟨ga, 0, none⟩) (n + 1) ca) = yopto at *
     have fn := Dn.f4
     have fR := R.f
     go_quiet (fail)
     clear fn fR
     have Dr := (Dr.drewN nq)
     have Dn := (Dn.drewN nq)
     have R := (R.drewN nq)
     have P := (P.drewN nq)
     have O := (O.drewN nq)
     have X0 := (X0.drewN nq)
     have X1 := (X1.drewN nq)
     generalize (yopto).drewN nq = zopto at *
     have fn := Dn.f4
     have fR := R.f
     go_wp2
     have hM2 : paM l b zopto = l.length - (k1 + 1) + 1 := by rw [paM_at R, if_pos rfl]
     have hst2 := ro_more HST.out (part_opt HS1.out HR.out) (by omega) HNt.out HMt.out (by omega)
     go_roundw
     case rel => exact ⟨_, _, _, _, _, _, _, _, _, hst2, R, P, fun _ => ⟨_, _, O⟩, Dn, Dr, X0.le⟩
     case measure => rw [hM, hM2]; omega
    have NS1 := Lib.hid h42
    have NS2 := Lib.hid h43
    have NS3 := Lib.hid h63
    by_cases hqc : l.length ≤ k1
    ·
     have dqc : decide ((l.length : Int) ≤ (k1 : Int)) = true := decide_eq_true (by omega)
     have dlc : decide ((k1 : Int) < (l.length : Int)) = false := decide_eq_false (by omega)
     have dmc : decide (k1 < l.length) = false := decide_eq_false (by omega)
     have doc : decide (l.length ≤ k1) = true := decide_eq_true (by omega)
     go_upto_region 4 with (fail)
     clear fn fR
     have ur1 := Dr.lt
     have un1 := Dn.lt
     have uR1 := R.cells.lt
     have Dk4 := At.nw (w1) [.int .u8 xo, .bool xb, .slice sa sl sc, .slice ka4 kl4 kc4] 55
     obtain ⟨Dr, Dn, R, P⟩ := (fun o => And.intro (Dr.alloc o) (And.intro (Dn.alloc o) (And.intro (R.alloc o) (P.alloc o)))) (.cells #[.int .u8 xo, .bool xb, .slice sa sl sc, .slice ka4 kl4 kc4] 55)
     have X0le := X0.le
     have X0 := (X0.alloc (.cells #[.int .u8 xo, .bool xb, .slice sa sl sc, .slice ka4 kl4 kc4] 55))
     have X2le := X2.le
     have X2 := (X2.alloc (.cells #[.int .u8 xo, .bool xb, .slice sa sl sc, .slice ka4 kl4 kc4] 55))
     have X1le := X1.le
     have X1 := (X1.alloc (.cells #[.int .u8 xo, .bool xb, .slice sa sl sc, .slice ka4 kl4 kc4] 55))
     generalize (w1).alloc (.cells #[.int .u8 xo, .bool xb, .slice sa sl sc, .slice ka4 kl4 kc4] 55) = qbe at *
     have fn := Dn.f4
     have fk4 := Dk4.f4
     have fR := R.f
     go_quiet (fail)
     clear fn fk4 fR
     have Dr := (Dr.drewN nq)
     have Dn := (Dn.drewN nq)
     have Dk4 := (Dk4.drewN nq)
     have R := (R.drewN nq)
     have P := (P.drewN nq)
     have X0 := (X0.drewN nq)
     have X2 := (X2.drewN nq)
     have X1 := (X1.drewN nq)
     generalize (qbe).drewN nq = pbe at *
     have fn := Dn.f4
     have fk4 := Dk4.f4
     have fR := R.f
     have O := O.keep X2.le X2.same
     clear X2
     go_wp2_with (at_builtin; refine wpList_append_own_at _ rfl _ _ 53 rfl bs 55 i0 (.agg #[.int .u8 0, .bool false, .slice none 0 0, .slice none 0 0]) 4 56 Tryz.underlying53 HI.out HZ.out HZ1.out HZ2.out rfl (by decide) _ _ _ rfl (O.own.alloc _) ⟨pbe.heap.size, 0, none⟩ 1 1 [.int .u8 xo, .bool xb, .slice sa sl sc, .slice ka4 kl4 kc4] rfl rfl (cells4_new _ _ _ _ _ _) ?j1be ?j2be ?j3be ?j4be ?_)
     case j1be => first | (intro u hu; simp at hu; rcases hu with rfl | rfl | rfl | rfl <;> rfl) | exact ⟨rfl, rfl, rfl, rfl⟩
     case j2be => have h1 := O.few; unfold maxLen; omega
     case j3be => have h1 := O.few; omega
     case j4be => (try simp); have h1 := X0.le; omega
     intro v' w1be hown hgrow _ hor
     obtain ⟨ga, ca, rfl, hgabe, hgbbe⟩ := hown.form (by omega)
     clear fn fk4 fR
     have hy := HN.out.keep (S' := fun x => bs ≤ x ∧ x < (pbe.alloc (.cells #[.int .u8 xo, .bool xb, .slice sa sl sc, .slice ka4 kl4 kc4] 55)).heap.size ∧ (Value.slice ka n kc).ownBlock ≠ some x) (w' := pbe.alloc (.cells #[.int .u8 xo, .bool xb, .slice sa sl sc, .slice ka4 kl4 kc4] 55)) (fun g hg => ⟨Nat.le_trans hble hg.1, Nat.lt_of_lt_of_le hg.2 (X1.alloc (.cells #[.int .u8 xo, .bool xb, .slice sa sl sc, .slice ka4 kl4 kc4] 55)).le, fun e2 => by have h1 := hown0 g e2; have h2 := hg.1; omega⟩) (fun g hg => (X1.alloc (.cells #[.int .u8 xo, .bool xb, .slice sa sl sc, .slice ka4 kl4 kc4] 55)).same g hg.1 hg.2)
     have Dr := grown_at hgrow (Dr.alloc (.cells #[.int .u8 xo, .bool xb, .slice sa sl sc, .slice ka4 kl4 kc4] 55)) (fun e2 => by have h1 := (O.lt _ e2).1; have h2 := hown0 _ e2; omega)
     have Dn := grown_at hgrow (Dn.alloc (.cells #[.int .u8 xo, .bool xb, .slice sa sl sc, .slice ka4 kl4 kc4] 55)) (fun e2 => by have h1 := (O.lt _ e2).1; have h2 := hown0 _ e2; omega)
     have Dk4 := grown_at hgrow (Dk4.alloc (.cells #[.int .u8 xo, .bool xb, .slice sa sl sc, .slice ka4 kl4 kc4] 55)) (fun e2 => by have h1 := (O.lt _ e2).1; have h2 := hown0 _ e2; omega)
     have X0 := (X0.alloc (.cells #[.int .u8 xo, .bool xb, .slice sa sl sc, .slice ka4 kl4 kc4] 55)).grown hgrow (fun g e2 => by have h1 := O.lt _ e2; have h2 := hown0 _ e2; omega)
     have X1 := (X1.alloc (.cells #[.int .u8 xo, .bool xb, .slice sa sl sc, .slice ka4 kl4 kc4] 55)).grown hgrow (fun g e2 => by have h1 := O.lt _ e2; have h2 := hown0 _ e2; omega)
     have R := (R.alloc (.cells #[.int .u8 xo, .bool xb, .slice sa sl sc, .slice ka4 kl4 kc4] 55)).grown hgrow (fun e2 => by have h1 := (O.lt _ e2).1; omega)
     have P := (P.alloc (.cells #[.int .u8 xo, .bool xb, .slice sa sl sc, .slice ka4 kl4 kc4] 55)).grown hgrow (fun g e2 => by have h1 := (O.lt _ e2).1; omega)
     have O := (O.alloc (.cells #[.int .u8 xo, .bool xb, .slice sa sl sc, .slice ka4 kl4 kc4] 55)).snoc (y := ⟨xo, xb, sa, sl, sc, ka4, kl4, kc4⟩) hown hgrow (hor.imp id (fun e => ⟨_, e, by simp⟩)) hy (by omega)
     clear hown hgrow hor
     have fn := Dn.f4
     have fk4 := Dk4.f4
     have fR := R.f
     go_wp2_with fail
     clear fn fk4 fR
     have Dr := (Dr.far (b' := nb) (j := 3) (by omega) (.slice (some ⟨ga, 0, none⟩) (n + 1) ca))
     have Dn : At ((w1be).setCell ⟨nb, 3, none⟩ (.slice (some ⟨ga, 0, none⟩) (n + 1) ca)) (nb) [.int .u8 38, .bool false, .slice none 0 0, .slice (some ⟨ga, 0, none⟩) (n + 1) ca] := (Dn.set 3 (.slice (some ⟨ga, 0, none⟩) (n + 1) ca))
     obtain ⟨R, P, O, X0, X1⟩ := (fun o => And.intro (R.far (c := nb) 3 (by omega) o) (And.intro (P.setCell (p := ⟨nb, 3, none⟩) (.inl (by dsimp only; omega)) o) (And.intro (O.setCell (p := ⟨nb, 3, none⟩) (by dsimp only; omega) o) (And.intro (X0.setCell (p := ⟨nb, 3, none⟩) (by dsimp only; omega) o) (X1.setCell (p := ⟨nb, 3, none⟩) (by dsimp only; omega) o))))) (.slice (some ⟨ga, 0, none⟩) (n + 1) ca)
     generalize (w1be).setCell ⟨nb, 3, none⟩ (.slice (some ⟨ga, 0, none⟩) (n + 1) ca) = ybe at *
     have fn := Dn.f4
     have fR := R.f
     go_quiet (fail)
     clear fn fR
     have Dr := (Dr.drewN nq)
     have Dn := (Dn.drewN nq)
     have R := (R.drewN nq)
     have P := (P.drewN nq)
     have O := (O.drewN nq)
     have X0 := (X0.drewN nq)
     have X1 := (X1.drewN nq)
     generalize (ybe).drewN nq = zbe at *
     have fr := Dr.f4
     have fn := Dn.f4
     have fR := R.f
     go_upto_region 9 with (fail)
     repeat go_step
     clear fr fn fR
     obtain ⟨Dr, Dn, R, P, O, X0, X1⟩ := (fun o0 o1 o2 o3 => And.intro (Dr.puts4 o0 o1 o2 o3) (And.intro (Dn.fars4 (w.heap.size) (by omega) o0 o1 o2 o3) (And.intro (R.fars4 (w.heap.size) (by omega) o0 o1 o2 o3) (And.intro (P.sets4 (w.heap.size) (by omega) o0 o1 o2 o3) (And.intro (O.sets4 (w.heap.size) (by omega) o0 o1 o2 o3) (And.intro (X0.sets4 (w.heap.size) (by omega) o0 o1 o2 o3) (X1.sets4 (w.heap.size) (by omega) o0 o1 o2 o3))))))) (.int .u8 38) (.bool false) (.slice none 0 0) (.slice (some ⟨ga, 0, none⟩) (n + 1) ca)
     generalize ((((zbe).setCell ⟨w.heap.size, 0, none⟩ (.int .u8 38)).setCell ⟨w.heap.size, 1, none⟩ (.bool false)).setCell ⟨w.heap.size, 2, none⟩ (.slice none 0 0)).setCell ⟨w.heap.size, 3, none⟩ (.slice (some ⟨ga, 0, none⟩) (n + 1) ca) = fbe at *
     have fr := Dr.f4
     have fn := Dn.f4
     have fR := R.f
     refine bodyPost_ret (v := ndV ⟨38, false, none, 0, 0, some ⟨ga, 0, none⟩, n + 1, ca⟩) (by simp [results, Tryz.results50, go_sem, fr]; try rfl) rfl ?_
     have hTe := ro_end HST.out (part_one HS1.out NS1.out NS2.out NS3.out) (Or.inl hqc)
     have hnode := O.node (by omega) (by omega) (S := Rng w fbe) (fun x hx => ⟨by have := hx.1; omega, hx.2⟩) (o := 38) (p := (ps ++ [p]).foldl .seq .eps) (Or.inr ⟨rfl, rfl⟩)
     rw [hTe]
     exact ⟨⟨38, false, none, 0, 0, some ⟨ga, 0, none⟩, n + 1, ca⟩, _, _, _, _, _, rfl, R, P, rfl, rfl, rfl, _, hnode⟩
    by_cases h124c : Rx.pk l k1 = 124
    ·
     have hxc := pk_byteAt R.txt k1 (by omega)
     rw [h124c] at hxc
     have hqlc : (k1 : Int) < (l.length : Int) := by omega
     have hqnc : ¬ ((l.length : Int) ≤ (k1 : Int)) := by omega
     have hqmc : (0 : Int) ≤ (k1 : Int) := by omega
     have dqc : decide ((l.length : Int) ≤ (k1 : Int)) = false := decide_eq_false hqnc
     have dlc : decide ((k1 : Int) < (l.length : Int)) = true := decide_eq_true hqlc
     have HEc := Lib.hid h124c
     clear h124c
     go_upto_region 4 with (fail)
     clear fn fR
     have ur1 := Dr.lt
     have un1 := Dn.lt
     have uR1 := R.cells.lt
     have Dk4 := At.nw (w1) [.int .u8 xo, .bool xb, .slice sa sl sc, .slice ka4 kl4 kc4] 55
     obtain ⟨Dr, Dn, R, P⟩ := (fun o => And.intro (Dr.alloc o) (And.intro (Dn.alloc o) (And.intro (R.alloc o) (P.alloc o)))) (.cells #[.int .u8 xo, .bool xb, .slice sa sl sc, .slice ka4 kl4 kc4] 55)
     have X0le := X0.le
     have X0 := (X0.alloc (.cells #[.int .u8 xo, .bool xb, .slice sa sl sc, .slice ka4 kl4 kc4] 55))
     have X2le := X2.le
     have X2 := (X2.alloc (.cells #[.int .u8 xo, .bool xb, .slice sa sl sc, .slice ka4 kl4 kc4] 55))
     have X1le := X1.le
     have X1 := (X1.alloc (.cells #[.int .u8 xo, .bool xb, .slice sa sl sc, .slice ka4 kl4 kc4] 55))
     generalize (w1).alloc (.cells #[.int .u8 xo, .bool xb, .slice sa sl sc, .slice ka4 kl4 kc4] 55) = qbs at *
     have fn := Dn.f4
     have fk4 := Dk4.f4
     have fR := R.f
     go_quiet (fail)
     clear fn fk4 fR
     have Dr := (Dr.drewN nq)
     have Dn := (Dn.drewN nq)
     have Dk4 := (Dk4.drewN nq)
     have R := (R.drewN nq)
     have P := (P.drewN nq)
     have X0 := (X0.drewN nq)
     have X2 := (X2.drewN nq)
     have X1 := (X1.drewN nq)
     generalize (qbs).drewN nq = pbs at *
     have fn := Dn.f4
     have fk4 := Dk4.f4
     have fR := R.f
     have O := O.keep X2.le X2.same
     clear X2
     go_wp2_with (at_builtin; refine wpList_append_own_at _ rfl _ _ 53 rfl bs 55 i0 (.agg #[.int .u8 0, .bool false, .slice none 0 0, .slice none 0 0]) 4 56 Tryz.underlying53 HI.out HZ.out HZ1.out HZ2.out rfl (by decide) _ _ _ rfl (O.own.alloc _) ⟨pbs.heap.size, 0, none⟩ 1 1 [.int .u8 xo, .bool xb, .slice sa sl sc, .slice ka4 kl4 kc4] rfl rfl (cells4_new _ _ _ _ _ _) ?j1bs ?j2bs ?j3bs ?j4bs ?_)
     case j1bs => first | (intro u hu; simp at hu; rcases hu with rfl | rfl | rfl | rfl <;> rfl) | exact ⟨rfl, rfl, rfl, rfl⟩
     case j2bs => have h1 := O.few; unfold maxLen; omega
     case j3bs => have h1 := O.few; omega
     case j4bs => (try simp); have h1 := X0.le; omega
     intro v' w1bs hown hgrow _ hor
     obtain ⟨ga, ca, rfl, hgabs, hgbbs⟩ := hown.form (by omega)
     clear fn fk4 fR
     have hy := HN.out.keep (S' := fun x => bs ≤ x ∧ x < (pbs.alloc (.cells #[.int .u8 xo, .bool xb, .slice sa sl sc, .slice ka4 kl4 kc4] 55)).heap.size ∧ (Value.slice ka n kc).ownBlock ≠ some x) (w' := pbs.alloc (.cells #[.int .u8 xo, .bool xb, .slice sa sl sc, .slice ka4 kl4 kc4] 55)) (fun g hg => ⟨Nat.le_trans hble hg.1, Nat.lt_of_lt_of_le hg.2 (X1.alloc (.cells #[.int .u8 xo, .bool xb, .slice sa sl sc, .slice ka4 kl4 kc4] 55)).le, fun e2 => by have h1 := hown0 g e2; have h2 := hg.1; omega⟩) (fun g hg => (X1.alloc (.cells #[.int .u8 xo, .bool xb, .slice sa sl sc, .slice ka4 kl4 kc4] 55)).same g hg.1 hg.2)
     have Dr := grown_at hgrow (Dr.alloc (.cells #[.int .u8 xo, .bool xb, .slice sa sl sc, .slice ka4 kl4 kc4] 55)) (fun e2 => by have h1 := (O.lt _ e2).1; have h2 := hown0 _ e2; omega)
     have Dn := grown_at hgrow (Dn.alloc (.cells #[.int .u8 xo, .bool xb, .slice sa sl sc, .slice ka4 kl4 kc4] 55)) (fun e2 => by have h1 := (O.lt _ e2).1; have h2 := hown0 _ e2; omega)
     have Dk4 := grown_at hgrow (Dk4.alloc (.cells #[.int .u8 xo, .bool xb, .slice sa sl sc, .slice ka4 kl4 kc4] 55)) (fun e2 => by have h1 := (O.lt _ e2).1; have h2 := hown0 _ e2; omega)
     have X0 := (X0.alloc (.cells #[.int .u8 xo, .bool xb, .slice sa sl sc, .slice ka4 kl4 kc4] 55)).grown hgrow (fun g e2 => by have h1 := O.lt _ e2; have h2 := hown0 _ e2; omega)
     have X1 := (X1.alloc (.cells #[.int .u8 xo, .bool xb, .slice sa sl sc, .slice ka4 kl4 kc4] 55)).grown hgrow (fun g e2 => by have h1 := O.lt _ e2; have h2 := hown0 _ e2; omega)
     have R := (R.alloc (.cells #[.int .u8 xo, .bool xb, .slice sa sl sc, .slice ka4 kl4 kc4] 55)).grown hgrow (fun e2 => by have h1 := (O.lt _ e2).1; omega)
     have P := (P.alloc (.cells #[.int .u8 xo, .bool xb, .slice sa sl sc, .slice ka4 kl4 kc4] 55)).grown hgrow (fun g e2 => by have h1 := (O.lt _ e2).1; omega)
     have O := (O.alloc (.cells #[.int .u8 xo, .bool xb, .slice sa sl sc, .slice ka4 kl4 kc4] 55)).snoc (y := ⟨xo, xb, sa, sl, sc, ka4, kl4, kc4⟩) hown hgrow (hor.imp id (fun e => ⟨_, e, by simp⟩)) hy (by omega)
     clear hown hgrow hor
     have fn := Dn.f4
     have fk4 := Dk4.f4
     have fR := R.f
     go_wp2_with fail
     clear fn fk4 fR
     have Dr := (Dr.far (b' := nb) (j := 3) (by omega) (.slice (some ⟨ga, 0, none⟩) (n + 1) ca))
     have Dn : At ((w1bs).setCell ⟨nb, 3, none⟩ (.slice (some ⟨ga, 0, none⟩) (n + 1) ca)) (nb) [.int .u8 38, .bool false, .slice none 0 0, .slice (some ⟨ga, 0, none⟩) (n + 1) ca] := (Dn.set 3 (.slice (some ⟨ga, 0, none⟩) (n + 1) ca))
     obtain ⟨R, P, O, X0, X1⟩ := (fun o => And.intro (R.far (c := nb) 3 (by omega) o) (And.intro (P.setCell (p := ⟨nb, 3, none⟩) (.inl (by dsimp only; omega)) o) (And.intro (O.setCell (p := ⟨nb, 3, none⟩) (by dsimp only; omega) o) (And.intro (X0.setCell (p := ⟨nb, 3, none⟩) (by dsimp only; omega) o) (X1.setCell (p := ⟨nb, 3, none⟩) (by dsimp only; omega) o))))) (.slice (some ⟨ga, 0, none⟩) (n + 1) ca)
     generalize (w1bs).setCell ⟨nb, 3, none⟩ (.slice (some ⟨ga, 0, none⟩) (n + 1) ca) = ybs at *
     have fn := Dn.f4
     have fR := R.f
     go_quiet (fail)
     clear fn fR
     have Dr := (Dr.drewN nq)
     have Dn := (Dn.drewN nq)
     have R := (R.drewN nq)
     have P := (P.drewN nq)
     have O := (O.drewN nq)
     have X0 := (X0.drewN nq)
     have X1 := (X1.drewN nq)
     generalize (ybs).drewN nq = zbs at *
     have fr := Dr.f4
     have fn := Dn.f4
     have fR := R.f
     go_upto_region 9 with (fail)
     repeat go_step
     clear fr fn fR
     obtain ⟨Dr, Dn, R, P, O, X0, X1⟩ := (fun o0 o1 o2 o3 => And.intro (Dr.puts4 o0 o1 o2 o3) (And.intro (Dn.fars4 (w.heap.size) (by omega) o0 o1 o2 o3) (And.intro (R.fars4 (w.heap.size) (by omega) o0 o1 o2 o3) (And.intro (P.sets4 (w.heap.size) (by omega) o0 o1 o2 o3) (And.intro (O.sets4 (w.heap.size) (by omega) o0 o1 o2 o3) (And.intro (X0.sets4 (w.heap.size) (by omega) o0 o1 o2 o3) (X1.sets4 (w.heap.size) (by omega) o0 o1 o2 o3))))))) (.int .u8 38) (.bool false) (.slice none 0 0) (.slice (some ⟨ga, 0, none⟩) (n + 1) ca)
     generalize ((((zbs).setCell ⟨w.heap.size, 0, none⟩ (.int .u8 38)).setCell ⟨w.heap.size, 1, none⟩ (.bool false)).setCell ⟨w.heap.size, 2, none⟩ (.slice none 0 0)).setCell ⟨w.heap.size, 3, none⟩ (.slice (some ⟨ga, 0, none⟩) (n + 1) ca) = fbs at *
     have fr := Dr.f4
     have fn := Dn.f4
     have fR := R.f
     refine bodyPost_ret (v := ndV ⟨38, false, none, 0, 0, some ⟨ga, 0, none⟩, n + 1, ca⟩) (by simp [results, Tryz.results50, go_sem, fr]; try rfl) rfl ?_
     have hTe := ro_end HST.out (part_one HS1.out NS1.out NS2.out NS3.out) (Or.inr (Or.inl HEc.out))
     have hnode := O.node (by omega) (by omega) (S := Rng w fbs) (fun x hx => ⟨by have := hx.1; omega, hx.2⟩) (o := 38) (p := (ps ++ [p]).foldl .seq .eps) (Or.inr ⟨rfl, rfl⟩)
     rw [hTe]
     exact ⟨⟨38, false, none, 0, 0, some ⟨ga, 0, none⟩, n + 1, ca⟩, _, _, _, _, _, rfl, R, P, rfl, rfl, rfl, _, hnode⟩
    by_cases h41c : Rx.pk l k1 = 41
    ·
     have hxc := pk_byteAt R.txt k1 (by omega)
     rw [h41c] at hxc
     have hqlc : (k1 : Int) < (l.length : Int) := by omega
     have hqnc : ¬ ((l.length : Int) ≤ (k1 : Int)) := by omega
     have hqmc : (0 : Int) ≤ (k1 : Int) := by omega
     have dqc : decide ((l.length : Int) ≤ (k1 : Int)) = false := decide_eq_false hqnc
     have dlc : decide ((k1 : Int) < (l.length : Int)) = true := decide_eq_true hqlc
     have HEc := Lib.hid h41c
     have HNc := Lib.hid h124c
     clear h41c h124c
     go_upto_region 4 with (fail)
     clear fn fR
     have ur1 := Dr.lt
     have un1 := Dn.lt
     have uR1 := R.cells.lt
     have Dk4 := At.nw (w1) [.int .u8 xo, .bool xb, .slice sa sl sc, .slice ka4 kl4 kc4] 55
     obtain ⟨Dr, Dn, R, P⟩ := (fun o => And.intro (Dr.alloc o) (And.intro (Dn.alloc o) (And.intro (R.alloc o) (P.alloc o)))) (.cells #[.int .u8 xo, .bool xb, .slice sa sl sc, .slice ka4 kl4 kc4] 55)
     have X0le := X0.le
     have X0 := (X0.alloc (.cells #[.int .u8 xo, .bool xb, .slice sa sl sc, .slice ka4 kl4 kc4] 55))
     have X2le := X2.le
     have X2 := (X2.alloc (.cells #[.int .u8 xo, .bool xb, .slice sa sl sc, .slice ka4 kl4 kc4] 55))
     have X1le := X1.le
     have X1 := (X1.alloc (.cells #[.int .u8 xo, .bool xb, .slice sa sl sc, .slice ka4 kl4 kc4] 55))
     generalize (w1).alloc (.cells #[.int .u8 xo, .bool xb, .slice sa sl sc, .slice ka4 kl4 kc4] 55) = qbb at *
     have fn := Dn.f4
     have fk4 := Dk4.f4
     have fR := R.f
     go_quiet (fail)
     clear fn fk4 fR
     have Dr := (Dr.drewN nq)
     have Dn := (Dn.drewN nq)
     have Dk4 := (Dk4.drewN nq)
     have R := (R.drewN nq)
     have P := (P.drewN nq)
     have X0 := (X0.drewN nq)
     have X2 := (X2.drewN nq)
     have X1 := (X1.drewN nq)
     generalize (qbb).drewN nq = pbb at *
     have fn := Dn.f4
     have fk4 := Dk4.f4
     have fR := R.f
     have O := O.keep X2.le X2.same
     clear X2
     go_wp2_with (at_builtin; refine wpList_append_own_at _ rfl _ _ 53 rfl bs 55 i0 (.agg #[.int .u8 0, .bool false, .slice none 0 0, .slice none 0 0]) 4 56 Tryz.underlying53 HI.out HZ.out HZ1.out HZ2.out rfl (by decide) _ _ _ rfl (O.own.alloc _) ⟨pbb.heap.size, 0, none⟩ 1 1 [.int .u8 xo, .bool xb, .slice sa sl sc, .slice ka4 kl4 kc4] rfl rfl (cells4_new _ _ _ _ _ _) ?j1bb ?j2bb ?j3bb ?j4bb ?_)
     case j1bb => first | (intro u hu; simp at hu; rcases hu with rfl | rfl | rfl | rfl <;> rfl) | exact ⟨rfl, rfl, rfl, rfl⟩
     case j2bb => have h1 := O.few; unfold maxLen; omega
     case j3bb => have h1 := O.few; omega
     case j4bb => (try simp); have h1 := X0.le; omega
     intro v' w1bb hown hgrow _ hor
     obtain ⟨ga, ca, rfl, hgabb, hgbbb⟩ := hown.form (by omega)
     clear fn fk4 fR
     have hy := HN.out.keep (S' := fun x => bs ≤ x ∧ x < (pbb.alloc (.cells #[.int .u8 xo, .bool xb, .slice sa sl sc, .slice ka4 kl4 kc4] 55)).heap.size ∧ (Value.slice ka n kc).ownBlock ≠ some x) (w' := pbb.alloc (.cells #[.int .u8 xo, .bool xb, .slice sa sl sc, .slice ka4 kl4 kc4] 55)) (fun g hg => ⟨Nat.le_trans hble hg.1, Nat.lt_of_lt_of_le hg.2 (X1.alloc (.cells #[.int .u8 xo, .bool xb, .slice sa sl sc, .slice ka4 kl4 kc4] 55)).le, fun e2 => by have h1 := hown0 g e2; have h2 := hg.1; omega⟩) (fun g hg => (X1.alloc (.cells #[.int .u8 xo, .bool xb, .slice sa sl sc, .slice ka4 kl4 kc4] 55)).same g hg.1 hg.2)
     have Dr := grown_at hgrow (Dr.alloc (.cells #[.int .u8 xo, .bool xb, .slice sa sl sc, .slice ka4 kl4 kc4] 55)) (fun e2 => by have h1 := (O.lt _ e2).1; have h2 := hown0 _ e2; omega)
     have Dn := grown_at hgrow (Dn.alloc (.cells #[.int .u8 xo, .bool xb, .slice sa sl sc, .slice ka4 kl4 kc4] 55)) (fun e2 => by have h1 := (O.lt _ e2).1; have h2 := hown0 _ e2; omega)
     have Dk4 := grown_at hgrow (Dk4.alloc (.cells #[.int .u8 xo, .bool xb, .slice sa sl sc, .slice ka4 kl4 kc4] 55)) (fun e2 => by have h1 := (O.lt _ e2).1; have h2 := hown0 _ e2; omega)
     have X0 := (X0.alloc (.cells #[.int .u8 xo, .bool xb, .slice sa sl sc, .slice ka4 kl4 kc4] 55)).grown hgrow (fun g e2 => by have h1 := O.lt _ e2; have h2 := hown0 _ e2; omega)
     have X1 := (X1.alloc (.cells #[.int .u8 xo, .bool xb, .slice sa sl sc, .slice ka4 kl4 kc4] 55)).grown hgrow (fun g e2 => by have h1 := O.lt _ e2; have h2 := hown0 _ e2; omega)
     have R := (R.alloc (.cells #[.int .u8 xo, .bool xb, .slice sa sl sc, .slice ka4 kl4 kc4] 55)).grown hgrow (fun e2 => by have h1 := (O.lt _ e2).1; omega)
     have P := (P.alloc (.cells #[.int .u8 xo, .bool xb, .slice sa sl sc, .slice ka4 kl4 kc4] 55)).grown hgrow (fun g e2 => by have h1 := (O.lt _ e2).1; omega)
     have O := (O.alloc (.cells #[.int .u8 xo, .bool xb, .slice sa sl sc, .slice ka4 kl4 kc4] 55)).snoc (y := ⟨xo, xb, sa, sl, sc, ka4, kl4, kc4⟩) hown hgrow (hor.imp id (fun e => ⟨_, e, by simp⟩)) hy (by omega)
     clear hown hgrow hor
     have fn := Dn.f4
     have fk4 := Dk4.f4
     have fR := R.f
     go_wp2_with fail
     clear fn fk4 fR
     have Dr := (Dr.far (b' := nb) (j := 3) (by omega) (.slice (some ⟨ga, 0, none⟩) (n + 1) ca))
     have Dn : At ((w1bb).setCell ⟨nb, 3, none⟩ (.slice (some ⟨ga, 0, none⟩) (n + 1) ca)) (nb) [.int .u8 38, .bool false, .slice none 0 0, .slice (some ⟨ga, 0, none⟩) (n + 1) ca] := (Dn.set 3 (.slice (some ⟨ga, 0, none⟩) (n + 1) ca))
     obtain ⟨R, P, O, X0, X1⟩ := (fun o => And.intro (R.far (c := nb) 3 (by omega) o) (And.intro (P.setCell (p := ⟨nb, 3, none⟩) (.inl (by dsimp only; omega)) o) (And.intro (O.setCell (p := ⟨nb, 3, none⟩) (by dsimp only; omega) o) (And.intro (X0.setCell (p := ⟨nb, 3, none⟩) (by dsimp only; omega) o) (X1.setCell (p := ⟨nb, 3, none⟩) (by dsimp only; omega) o))))) (.slice (some ⟨ga, 0, none⟩) (n + 1) ca)
     generalize (w1bb).setCell ⟨nb, 3, none⟩ (.slice (some ⟨ga, 0, none⟩) (n + 1) ca) = ybb at *
     have fn := Dn.f4
     have fR := R.f
     go_quiet (fail)
     clear fn fR
     have Dr := (Dr.drewN nq)
     have Dn := (Dn.drewN nq)
     have R := (R.drewN nq)
     have P := (P.drewN nq)
     have O := (O.drewN nq)
     have X0 := (X0.drewN nq)
     have X1 := (X1.drewN nq)
     generalize (ybb).drewN nq = zbb at *
     have fr := Dr.f4
     have fn := Dn.f4
     have fR := R.f
     go_upto_region 9 with (fail)
     repeat go_step
     clear fr fn fR
     obtain ⟨Dr, Dn, R, P, O, X0, X1⟩ := (fun o0 o1 o2 o3 => And.intro (Dr.puts4 o0 o1 o2 o3) (And.intro (Dn.fars4 (w.heap.size) (by omega) o0 o1 o2 o3) (And.intro (R.fars4 (w.heap.size) (by omega) o0 o1 o2 o3) (And.intro (P.sets4 (w.heap.size) (by omega) o0 o1 o2 o3) (And.intro (O.sets4 (w.heap.size) (by omega) o0 o1 o2 o3) (And.intro (X0.sets4 (w.heap.size) (by omega) o0 o1 o2 o3) (X1.sets4 (w.heap.size) (by omega) o0 o1 o2 o3))))))) (.int .u8 38) (.bool false) (.slice none 0 0) (.slice (some ⟨ga, 0, none⟩) (n + 1) ca)
     generalize ((((zbb).setCell ⟨w.heap.size, 0, none⟩ (.int .u8 38)).setCell ⟨w.heap.size, 1, none⟩ (.bool false)).setCell ⟨w.heap.size, 2, none⟩ (.slice none 0 0)).setCell ⟨w.heap.size, 3, none⟩ (.slice (some ⟨ga, 0, none⟩) (n + 1) ca) = fbb at *
     have fr := Dr.f4
     have fn := Dn.f4
     have fR := R.f
     refine bodyPost_ret (v := ndV ⟨38, false, none, 0, 0, some ⟨ga, 0, none⟩, n + 1, ca⟩) (by simp [results, Tryz.results50, go_sem, fr]; try rfl) rfl ?_
     have hTe := ro_end HST.out (part_one HS1.out NS1.out NS2.out NS3.out) (Or.inr (Or.inr HEc.out))
     have hnode := O.node (by omega) (by omega) (S := Rng w fbb) (fun x hx => ⟨by have := hx.1; omega, hx.2⟩) (o := 38) (p := (ps ++ [p]).foldl .seq .eps) (Or.inr ⟨rfl, rfl⟩)
     rw [hTe]
     exact ⟨⟨38, false, none, 0, 0, some ⟨ga, 0, none⟩, n + 1, ca⟩, _, _, _, _, _, rfl, R, P, rfl, rfl, rfl, _, hnode⟩
    have hxc := pk_byteAt R.txt k1 (by omega)
    obtain ⟨xc, hxxc⟩ : ∃ x, Rx.pk l k1 = x := ⟨_, rfl⟩
    rw [hxxc] at hxc
    have d124c : ((xc : Int) == 124) = false := by rw [beq_eq_false_iff_ne]; omega
    have d41c : ((xc : Int) == 41) = false := by rw [beq_eq_false_iff_ne]; omega
    have d42c : ((xc : Int) == 42) = false := by rw [beq_eq_false_iff_ne]; omega
    have d43c : ((xc : Int) == 43) = false := by rw [beq_eq_false_iff_ne]; omega
    have d63c : ((xc : Int) == 63) = false := by rw [beq_eq_false_iff_ne]; omega
    clear hxxc
    have hqlc : (k1 : Int) < (l.length : Int) := by omega
    have hqnc : ¬ ((l.length : Int) ≤ (k1 : Int)) := by omega
    have hqmc : (0 : Int) ≤ (k1 : Int) := by omega
    have dqc : decide ((l.length : Int) ≤ (k1 : Int)) = false := decide_eq_false hqnc
    have dlc : decide ((k1 : Int) < (l.length : Int)) = true := decide_eq_true hqlc
    have HNc := Lib.hid h124c
    have HMc := Lib.hid h41c
    clear h41c h124c
    go_upto_region 4 with (fail)
    clear fn fR
    have ur1 := Dr.lt
    have un1 := Dn.lt
    have uR1 := R.cells.lt
    have Dk4 := At.nw (w1) [.int .u8 xo, .bool xb, .slice sa sl sc, .slice ka4 kl4 kc4] 55
    obtain ⟨Dr, Dn, R, P⟩ := (fun o => And.intro (Dr.alloc o) (And.intro (Dn.alloc o) (And.intro (R.alloc o) (P.alloc o)))) (.cells #[.int .u8 xo, .bool xb, .slice sa sl sc, .slice ka4 kl4 kc4] 55)
    have X0le := X0.le
    have X0 := (X0.alloc (.cells #[.int .u8 xo, .bool xb, .slice sa sl sc, .slice ka4 kl4 kc4] 55))
    have X2le := X2.le
    have X2 := (X2.alloc (.cells #[.int .u8 xo, .bool xb, .slice sa sl sc, .slice ka4 kl4 kc4] 55))
    have X1le := X1.le
    have X1 := (X1.alloc (.cells #[.int .u8 xo, .bool xb, .slice sa sl sc, .slice ka4 kl4 kc4] 55))
    generalize (w1).alloc (.cells #[.int .u8 xo, .bool xb, .slice sa sl sc, .slice ka4 kl4 kc4] 55) = qbo at *
    have fn := Dn.f4
    have fk4 := Dk4.f4
    have fR := R.f
    go_quiet (fail)
    clear fn fk4 fR
    have Dr := (Dr.drewN nq)
    have Dn := (Dn.drewN nq)
    have Dk4 := (Dk4.drewN nq)
    have R := (R.drewN nq)
    have P := (P.drewN nq)
    have X0 := (X0.drewN nq)
    have X2 := (X2.drewN nq)
    have X1 := (X1.drewN nq)
    generalize (qbo).drewN nq = pbo at *
    have fn := Dn.f4
    have fk4 := Dk4.f4
    have fR := R.f
    have O := O.keep X2.le X2.same
    clear X2
    go_wp2_with (at_builtin; refine wpList_append_own_at _ rfl _ _ 53 rfl bs 55 i0 (.agg #[.int .u8 0, .bool false, .slice none 0 0, .slice none 0 0]) 4 56 Tryz.underlying53 HI.out HZ.out HZ1.out HZ2.out rfl (by decide) _ _ _ rfl (O.own.alloc _) ⟨pbo.heap.size, 0, none⟩ 1 1 [.int .u8 xo, .bool xb, .slice sa sl sc, .slice ka4 kl4 kc4] rfl rfl (cells4_new _ _ _ _ _ _) ?j1bo ?j2bo ?j3bo ?j4bo ?_)
    case j1bo => first | (intro u hu; simp at hu; rcases hu with rfl | rfl | rfl | rfl <;> rfl) | exact ⟨rfl, rfl, rfl, rfl⟩
    case j2bo => have h1 := O.few; unfold maxLen; omega
    case j3bo => have h1 := O.few; omega
    case j4bo => (try simp); have h1 := X0.le; omega
    intro v' w1bo hown hgrow _ hor
    obtain ⟨ga, ca, rfl, hgabo, hgbbo⟩ := hown.form (by omega)
    clear fn fk4 fR
    have hy := HN.out.keep (S' := fun x => bs ≤ x ∧ x < (pbo.alloc (.cells #[.int .u8 xo, .bool xb, .slice sa sl sc, .slice ka4 kl4 kc4] 55)).heap.size ∧ (Value.slice ka n kc).ownBlock ≠ some x) (w' := pbo.alloc (.cells #[.int .u8 xo, .bool xb, .slice sa sl sc, .slice ka4 kl4 kc4] 55)) (fun g hg => ⟨Nat.le_trans hble hg.1, Nat.lt_of_lt_of_le hg.2 (X1.alloc (.cells #[.int .u8 xo, .bool xb, .slice sa sl sc, .slice ka4 kl4 kc4] 55)).le, fun e2 => by have h1 := hown0 g e2; have h2 := hg.1; omega⟩) (fun g hg => (X1.alloc (.cells #[.int .u8 xo, .bool xb, .slice sa sl sc, .slice ka4 kl4 kc4] 55)).same g hg.1 hg.2)
    have Dr := grown_at hgrow (Dr.alloc (.cells #[.int .u8 xo, .bool xb, .slice sa sl sc, .slice ka4 kl4 kc4] 55)) (fun e2 => by have h1 := (O.lt _ e2).1; have h2 := hown0 _ e2; omega)
    have Dn := grown_at hgrow (Dn.alloc (.cells #[.int .u8 xo, .bool xb, .slice sa sl sc, .slice ka4 kl4 kc4] 55)) (fun e2 => by have h1 := (O.lt _ e2).1; have h2 := hown0 _ e2; omega)
    have Dk4 := grown_at hgrow (Dk4.alloc (.cells #[.int .u8 xo, .bool xb, .slice sa sl sc, .slice ka4 kl4 kc4] 55)) (fun e2 => by have h1 := (O.lt _ e2).1; have h2 := hown0 _ e2; omega)
    have X0 := (X0.alloc (.cells #[.int .u8 xo, .bool xb, .slice sa sl sc, .slice ka4 kl4 kc4] 55)).grown hgrow (fun g e2 => by have h1 := O.lt _ e2; have h2 := hown0 _ e2; omega)
    have X1 := (X1.alloc (.cells #[.int .u8 xo, .bool xb, .slice sa sl sc, .slice ka4 kl4 kc4] 55)).grown hgrow (fun g e2 => by have h1 := O.lt _ e2; have h2 := hown0 _ e2; omega)
    have R := (R.alloc (.cells #[.int .u8 xo, .bool xb, .slice sa sl sc, .slice ka4 kl4 kc4] 55)).grown hgrow (fun e2 => by have h1 := (O.lt _ e2).1; omega)
    have P := (P.alloc (.cells #[.int .u8 xo, .bool xb, .slice sa sl sc, .slice ka4 kl4 kc4] 55)).grown hgrow (fun g e2 => by have h1 := (O.lt _ e2).1; omega)
    have O := (O.alloc (.cells #[.int .u8 xo, .bool xb, .slice sa sl sc, .slice ka4 kl4 kc4] 55)).snoc (y := ⟨xo, xb, sa, sl, sc, ka4, kl4, kc4⟩) hown hgrow (hor.imp id (fun e => ⟨_, e, by simp⟩)) hy (by omega)
    clear hown hgrow hor
    have fn := Dn.f4
    have fk4 := Dk4.f4
    have fR := R.f
    go_wp2_with fail
    clear fn fk4 fR
    have Dr := (Dr.far (b' := nb) (j := 3) (by omega) (.slice (some ⟨ga, 0, none⟩) (n + 1) ca))
    have Dn : At ((w1bo).setCell ⟨nb, 3, none⟩ (.slice (some ⟨ga, 0, none⟩) (n + 1) ca)) (nb) [.int .u8 38, .bool false, .slice none 0 0, .slice (some ⟨ga, 0, none⟩) (n + 1) ca] := (Dn.set 3 (.slice (some ⟨ga, 0, none⟩) (n + 1) ca))
    obtain ⟨R, P, O, X0, X1⟩ := (fun o => And.intro (R.far (c := nb) 3 (by omega) o) (And.intro (P.setCell (p := ⟨nb, 3, none⟩) (.inl (by dsimp only; omega)) o) (And.intro (O.setCell (p := ⟨nb, 3, none⟩) (by dsimp only; omega) o) (And.intro (X0.setCell (p := ⟨nb, 3, none⟩) (by dsimp only; omega) o) (X1.setCell (p := ⟨nb, 3, none⟩) (by dsimp only; omega) o))))) (.slice (some ⟨ga, 0, none⟩) (n + 1) ca)
    generalize (w1bo).setCell ⟨nb, 3, none⟩ (.slice (some ⟨ga, 0, none⟩) (n + 1) ca) = ybo at *
    have fn := Dn.f4
    have fR := R.f
    go_quiet (fail)
    clear fn fR
    have Dr := (Dr.drewN nq)
    have Dn := (Dn.drewN nq)
    have R := (R.drewN nq)
    have P := (P.drewN nq)
    have O := (O.drewN nq)
    have X0 := (X0.drewN nq)
    have X1 := (X1.drewN nq)
    generalize (ybo).drewN nq = zbo at *
    have fn := Dn.f4
    have fR := R.f
    go_wp2
    have hM2 : paM l b zbo = l.length - (k1) + 1 := by rw [paM_at R, if_pos rfl]
    have hst2 := ro_more HST.out (part_one HS1.out NS1.out NS2.out NS3.out) (by omega) HNc.out HMc.out (by omega)
    go_roundw
    case rel => exact ⟨_, _, _, _, _, _, _, _, _, hst2, R, P, fun _ => ⟨_, _, O⟩, Dn, Dr, X0.le⟩
    case measure => rw [hM, hM2]; omega
  ·
   have hne2 : ((er : Int) == 0) = false := by rw [beq_eq_false_iff_ne]; omega
   have fr := Dr.f4
   have fn := Dn.f4
   have fR := R.f
   go_upto_region 10 with (fail)
   repeat go_step
   clear fr fn fR
   obtain ⟨Dr, Dn, R, P⟩ := (fun o0 o1 o2 o3 => And.intro (Dr.puts4 o0 o1 o2 o3) (And.intro (Dn.fars4 (w.heap.size) (by omega) o0 o1 o2 o3) (And.intro (R.fars4 (w.heap.size) (by omega) o0 o1 o2 o3) (P.sets4 (w.heap.size) (by omega) o0 o1 o2 o3)))) (.int .u8 38) (.bool false) (.slice none 0 0) (.slice ka n kc)
   generalize ((((wr).setCell ⟨w.heap.size, 0, none⟩ (.int .u8 38)).setCell ⟨w.heap.size, 1, none⟩ (.bool false)).setCell ⟨w.heap.size, 2, none⟩ (.slice none 0 0)).setCell ⟨w.heap.size, 3, none⟩ (.slice ka n kc) = q9 at *
   have fr := Dr.f4
   have fn := Dn.f4
   have fR := R.f
   refine bodyPost_ret (v := ndV ⟨38, false, none, 0, 0, ka, n, kc⟩) (by simp [results, Tryz.results50, go_sem, fr]; try rfl) rfl ?_
   rw [hT]
   exact ⟨⟨38, false, none, 0, 0, ka, n, kc⟩, _, _, _, _, _, rfl, R, P, rfl, rfl, hne⟩
end Go.Proofs.YtjnbgbdfoknakaaGreatDoor
