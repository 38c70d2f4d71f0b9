/- The reference: set: what a round comes to. -/
import Derived.Test.YthdoniefjmphaaaGreatDoorRKids
namespace Go.Proofs.YthdoniefjmphaaaGreatDoor
open Go Go.Proofs Go.RowKit Go.Shelf
set_option maxRecDepth 100000
def SetSt (l : List UInt8) (T : Rx.Res (List (Nat × Nat))) (k : Nat) (bad pos : Int) (rs : List (Nat × Nat)) : Prop :=
  (bad = 0 ∧ pos = 0 ∧ (∀ r ∈ rs, r.2 ≤ 126) ∧ rs.length ≤ k ∧ ∃ f, Rx.itemsF l f k rs = T ∧ l.length - k < f) ∨ (∃ er j, T = .bad er j ∧ bad = (er : Int) ∧ pos = (j : Int) ∧ er ≠ 0)
theorem set_bad {l : List UInt8} {T : Rx.Res (List (Nat × Nat))} {f k : Nat} {rs : List (Nat × Nat)} (h : Rx.itemsF l f k rs = T) (hf : l.length - k < f) {er j : Nat} (hr : Rx.rangeF l k = .bad er j) : T = .bad er j := by
  obtain ⟨f, rfl⟩ : ∃ g, f = g + 1 := ⟨f - 1, by omega⟩;rw [← h]; unfold Rx.itemsF; rw [hr]
theorem set_end {l : List UInt8} {T : Rx.Res (List (Nat × Nat))} {f k : Nat} {rs : List (Nat × Nat)} (h : Rx.itemsF l f k rs = T) (hf : l.length - k < f) {r : Nat × Nat} {j : Nat} (hr : Rx.rangeF l k = .ok r j) (h93 : Rx.pk l j = 93) : T = .ok (rs ++ [r]) (j + 1) := by
  obtain ⟨f, rfl⟩ : ∃ g, f = g + 1 := ⟨f - 1, by omega⟩;rw [← h]; unfold Rx.itemsF; rw [hr]; dsimp only; rw [if_pos h93]
theorem set_more {l : List UInt8} {T : Rx.Res (List (Nat × Nat))} {f k : Nat} {rs : List (Nat × Nat)} (h : Rx.itemsF l f k rs = T) (hf : l.length - k < f) (hk : k ≤ l.length) {r : Nat × Nat} {j : Nat} (hr : Rx.rangeF l k = .ok r j) (h93 : Rx.pk l j ≠ 93) (h126 : ∀ r ∈ rs, r.2 ≤ 126) (hl : rs.length ≤ k) : SetSt l T j 0 0 (rs ++ [r]) := by
  obtain ⟨f, rfl⟩ : ∃ g, f = g + 1 := ⟨f - 1, by omega⟩;have g := Rx.range_goes hk;rw [hr] at g;obtain ⟨g1, g2, g3, g4, g5⟩ := g;refine Or.inl ⟨rfl, rfl, fun q hq => ?_, by rw [List.length_append]; simp; omega, f, ?_, by omega⟩
  · rcases List.mem_append.1 hq with h | h
    · exact h126 q h
    · rw [List.mem_singleton.1 h]; exact g5
  · rw [← h]; conv => rhs; unfold Rx.itemsF
    rw [hr]; dsimp only; rw [if_neg h93]
theorem range_one {l : List UInt8} {k a j : Nat} (h : Rx.singleF Rx.inL l k = .ok a j) (h45 : Rx.pk l j ≠ 45) : Rx.rangeF l k = .ok (a, a) j := by unfold Rx.rangeF; rw [h]; dsimp only; rw [if_neg h45]
theorem range_bad {l : List UInt8} {k er j : Nat} (h : Rx.singleF Rx.inL l k = .bad er j) : Rx.rangeF l k = .bad er j := by unfold Rx.rangeF; rw [h]
theorem range_bad2 {l : List UInt8} {k a j er i : Nat} (h : Rx.singleF Rx.inL l k = .ok a j) (h45 : Rx.pk l j = 45) (h2 : Rx.singleF Rx.inL l (j + 1) = .bad er i) : Rx.rangeF l k = .bad er i := by unfold Rx.rangeF; rw [h]; dsimp only; rw [if_pos h45, h2]
theorem range_fall {l : List UInt8} {k a j b i : Nat} (h : Rx.singleF Rx.inL l k = .ok a j) (h45 : Rx.pk l j = 45) (h2 : Rx.singleF Rx.inL l (j + 1) = .ok b i) (hb : b < a) : Rx.rangeF l k = .bad 2 (j + 1) := by unfold Rx.rangeF; rw [h]; dsimp only; rw [if_pos h45, h2]; dsimp only; rw [if_pos hb]
theorem range_two {l : List UInt8} {k a j b i : Nat} (h : Rx.singleF Rx.inL l k = .ok a j) (h45 : Rx.pk l j = 45) (h2 : Rx.singleF Rx.inL l (j + 1) = .ok b i) (hb : ¬ b < a) : Rx.rangeF l k = .ok (a, b) i := by unfold Rx.rangeF; rw [h]; dsimp only; rw [if_pos h45, h2]; dsimp only; rw [if_neg hb]
def setRes (neg : Bool) (T : Rx.Res (List (Nat × Nat))) : Rx.Res Rx.Pt := match T with | .bad e j => .bad e j | .ok rs j => .ok (.leaf (Rx.maskB neg rs)) j
theorem info_two : (Tryz.prog.info? 147).map (fun i => (i.zero, i.size, i.bytes)) = some (some (.agg #[.int .u8 0, .int .u8 0]), 2, 2) := by kernel_rfl
end Go.Proofs.YthdoniefjmphaaaGreatDoor
namespace Go.Proofs.YthdoniefjmphaaaGreatDoor
open Go Go.Proofs Go.RowKit Go.Shelf
set_option maxRecDepth 100000
attribute [local go_sem] cell_set ndV
set_option maxHeartbeats 8000000 in
theorem set_E (b : Nat) (s : ByteArray) (l : List UInt8) (dz : Int) (k dp : Nat) (w : World) (R : Pa b s l (k : Int) dz 0 0 k dp w) (hk : k < l.length) (hw : l.length ≤ k + 1) (T : Rx.Res (List (Nat × Nat))) (hT : Rx.itemsF l (l.length + 1) (k + 1) [] = T) :
  Calls Tryz.prog 83 #[.pointer (some ⟨b, 0, none⟩)] w (NP b w s l dp (setRes false T)) := by
 obtain ⟨i0, hi, hz0, hz1, hz2⟩ := info_parts info_two;have HI := Lib.hid hi;have HZ := Lib.hid hz0;have HZ1 := Lib.hid hz1;have HZ2 := Lib.hid hz2;clear hi hz0 hz1 hz2;have hsz : s.size = l.length := by rw [Lib.size_eq, R.txt]
 have hl := R.ll;have P := Kq.refl b w;have hw0 := R.cells.lt;have hST : SetSt l T (k + 1) 0 0 [] := Or.inl ⟨rfl, rfl, by simp, by simp, _, hT, by omega⟩;have HST := Lib.hid hST;clear hT hST;have d1 : decide ((k : Int) + 1 < (l.length : Int)) = false := decide_eq_false (by omega);obtain ⟨r, hr⟩ : ∃ r : Rx.Res Rx.Pt, r = (setRes false T) := ⟨_, rfl⟩;rw [← hr];have HR := Lib.hid hr;clear hr;have fR := R.f;go_enter Tryz.func83, Tryz.ntmps83
 go_upto_region 2 with (fail)
 clear fR;have uR0 := R.cells.lt;have Dr := ((At.nwn (w.heap.size) (w) 0 false none 0 0 none 0 0).alloc (nC 99 false none 0 0 none 0 0))
 have Dn := (At.nwn (w.heap.size + 1) ((w).alloc (nC 0 false none 0 0 none 0 0)) 99 false none 0 0 none 0 0)
 have R := ((R.alloc (nC 0 false none 0 0 none 0 0)).alloc (nC 99 false none 0 0 none 0 0));have P := ((P.alloc (nC 0 false none 0 0 none 0 0)).alloc (nC 99 false none 0 0 none 0 0));generalize ((w).alloc (nC 0 false none 0 0 none 0 0)).alloc (nC 99 false none 0 0 none 0 0) = v00 at *;have hnr : w.heap.size < w.heap.size + 1 := Nat.lt_succ_self _;obtain ⟨nb, hnb⟩ : ∃ nb, nb = w.heap.size + 1 := ⟨_, rfl⟩;rw [← hnb] at Dn ⊢;have hrn : w.heap.size < nb := by omega
 clear hnb hnr;have fr := Dr.f4;have fn := Dn.f4;have fR := R.f;go_wp2_with fail
 clear fr fn fR;have Dr := (Dr.far (b' := b) (j := 1) (by omega) (.int .i64 ((k : Int) + 1)));have Dn := (Dn.far (b' := b) (j := 1) (by omega) (.int .i64 ((k : Int) + 1)));have R := (R.move (z' := (k : Int) + 1) (k' := k + 1) (by omega) (by omega));have P := (P.setCell (p := ⟨b, 1, none⟩) (.inr rfl) (.int .i64 ((k : Int) + 1)));generalize (v00).setCell ⟨b, 1, none⟩ (.int .i64 ((k : Int) + 1)) = v0 at *;obtain ⟨bs, hbs⟩ : ∃ bs, bs = v0.heap.size := ⟨_, rfl⟩;have hnbs : nb < bs := by have h := Dn.lt; omega
 have hbs2 : bs ≤ v0.heap.size := by omega
 clear hbs;have X0 : Kx (bs) (bs) v0 v0 := ⟨hbs2, fun _ _ _ => by omega⟩;have fr := Dr.f4;have fn := Dn.f4;have fR := R.f;go_quiet (fail)
 clear fr fn fR;have Dr := (Dr.drewN nq);have Dn := (Dn.drewN nq);have R := (R.drewN nq);have P := (P.drewN nq);have X0 := (X0.drewN nq);generalize (v0).drewN nq = v1 at *;have fr := Dr.f4;have fn := Dn.f4;have fR := R.f;go_wp2_with fail
 clear fr fn fR;have fr := Dr.f4;have fn := Dn.f4;have fR := R.f;have O := Bts.nil v1 bs;go_loopw [4, 5, 6, 7, 8] (fun v4 v5 v6 v7 v8 wr => ∃ (rs : List (Nat × Nat)) (sa : Option Addr) (n sc : Nat) (z dz1 bad pos : Int) (k : Nat), (bad = 0 → l.length ≤ k) ∧ SetSt l T k bad pos rs ∧ Pa b s l z dz1 bad pos k dp wr ∧ Kq b w wr ∧ Bts bs wr sa n sc rs ∧ At wr nb [.int .u8 99, .bool false, .slice sa n sc, .slice none 0 0] ∧ At wr w.heap.size [.int .u8 0, .bool false, .slice none 0 0, .slice none 0 0] ∧ bs ≤ wr.heap.size) (fun _ _ _ _ _ wr => paM l b wr)
 case atStart => exact ⟨[], none, 0, 0, _, _, _, _, _, fun _ => hw, HST.out, R, P, O, Dn, Dr, by have h := X0.le; omega⟩
 case round =>
  clear Dn Dr R P O HST;obtain ⟨rs, sa, n, sc, z, dz1, bad, pos, k0, hE, hst, R, P, O, Dn, Dr, hble⟩ := hrel;have hkl := R.kl;have X1 : Kx (bs) (bs) wr wr := ⟨hble, fun _ _ _ => by omega⟩;rcases hst with ⟨rfl, rfl, h126, hrl, f, hT, hf⟩ | ⟨er, j, hT, rfl, rfl, hne⟩
  ·
   obtain rfl := R.hk;have hM : paM l b wr = l.length - k0 + 1 := by rw [paM_at R, if_pos rfl]
   have hkE : l.length ≤ k0 := hE rfl;clear hE;have HT := Lib.hid hT;have H126 := Lib.hid h126;clear hT h126;have fn := Dn.f4;have fR := R.f;go_wp2_with fail
   clear fn fR;have ltr := Dr.lt;have ltn := Dn.lt;have ltR := R.cells.lt;refine (byte1_any b s l _ _ _ _ _ R).mono ?_;rintro e w1 ⟨va, z1, dz2, bad, pos, k1, rfl, R2, P2, hs1⟩;have Dr := Dr.kq P2 (by omega);have Dn := Dn.kq P2 (by omega);have X1 := X1.kq P2 (by omega);have O := O.kq P2 (by omega);have P := P.trans P2;have P3 := P2;have R := R2;clear R2 P2;clear ltR ltr ltn;have fn := Dn.f4;have fR := R.f;clear P3;cases hS1 : Rx.singleF Rx.inL l k0 with
   | bad er j =>
    rw [hS1] at hs1;obtain ⟨rfl, rfl, hne⟩ := hs1;have hTb := set_bad HT.out hf (range_bad hS1);have hne2 : ((er : Int) == 0) = false := by rw [beq_eq_false_iff_ne]; omega
    clear hS1;go_wp2_with fail
    go_quiet (fail)
    clear fn fR;have Dr := (Dr.drewN nq);have Dn := (Dn.drewN nq);have R := (R.drewN nq);have P := (P.drewN nq);have O := (O.drewN nq);have X1 := (X1.drewN nq);generalize (w1).drewN nq = x1 at *;have fn := Dn.f4;have fR := R.f;go_wp2_with (at_builtin; refine wpList_append_own_at _ rfl _ _ 52 rfl bs 147 i0 (.agg #[.int .u8 0, .int .u8 0]) 2 2 Tryz.underlying52 HI.out HZ.out HZ1.out HZ2.out rfl (by decide) _ _ _ rfl (O.own.alloc _) ⟨x1.heap.size, 0, none⟩ 1 1 [.int .u8 (va : Int), .int .u8 (va : Int)] rfl rfl (rxcells2_new _ _ _ _) ?j1a ?j2a ?j3a ?j4a ?_)
    case j1a => first | (intro u hu; simp at hu; rcases hu with rfl | rfl <;> rfl) | exact ⟨rfl, rfl⟩
    case j2a => have h1 := O.len; unfold maxLen; omega
    case j3a => have h1 := O.len; omega
    case j4a => (try simp); have h1 := X1.le; omega
    intro v' w1a hown hgrow _ hor;obtain ⟨ga, ca, rfl, hgaa, hgba⟩ := hown.form (by omega);clear fn fR;have Dr := grown_at hgrow (Dr.alloc (.cells #[.int .u8 (va : Int), .int .u8 (va : Int)] 147)) (fun e2 => by have h1 := (O.lt _ e2).1; omega);have Dn := grown_at hgrow (Dn.alloc (.cells #[.int .u8 (va : Int), .int .u8 (va : Int)] 147)) (fun e2 => by have h1 := (O.lt _ e2).1; omega);have X1 := (X1.alloc (.cells #[.int .u8 (va : Int), .int .u8 (va : Int)] 147)).grown hgrow (fun g e2 => by have h1 := O.lt _ e2; omega);have R := (R.alloc (.cells #[.int .u8 (va : Int), .int .u8 (va : Int)] 147)).grown hgrow (fun e2 => by have h1 := (O.lt _ e2).1; omega);have P := (P.alloc (.cells #[.int .u8 (va : Int), .int .u8 (va : Int)] 147)).grown hgrow (fun g e2 => by have h1 := (O.lt _ e2).1; omega);have O := O.snoc va va hown (by have h1 := O.hn; omega);clear hown hgrow hor;have fn := Dn.f4;have fR := R.f;go_wp2_with fail
    clear fn fR;have Dr := (Dr.far (b' := nb) (j := 2) (by omega) (.slice (some ⟨ga, 0, none⟩) (n + 1) ca));have Dn : At ((w1a).setCell ⟨nb, 2, none⟩ (.slice (some ⟨ga, 0, none⟩) (n + 1) ca)) (nb) [.int .u8 99, .bool false, .slice (some ⟨ga, 0, none⟩) (n + 1) ca, .slice none 0 0] := (Dn.set 2 (.slice (some ⟨ga, 0, none⟩) (n + 1) ca));obtain ⟨R, P, O, X1⟩ := (fun o => And.intro (R.far (c := nb) 2 (by omega) o) (And.intro (P.setCell (p := ⟨nb, 2, none⟩) (.inl (by dsimp only; omega)) o) (And.intro (O.setCell (p := ⟨nb, 2, none⟩) (by dsimp only; omega) o) (X1.setCell (p := ⟨nb, 2, none⟩) (by dsimp only; omega) o)))) (.slice (some ⟨ga, 0, none⟩) (n + 1) ca);generalize (w1a).setCell ⟨nb, 2, none⟩ (.slice (some ⟨ga, 0, none⟩) (n + 1) ca) = x2 at *;have fn := Dn.f4;have fR := R.f;go_quiet (fail)
    clear fn fR;have Dr := (Dr.drewN nq);have Dn := (Dn.drewN nq);have R := (R.drewN nq);have P := (P.drewN nq);have O := (O.drewN nq);have X1 := (X1.drewN nq);generalize (x2).drewN nq = x3 at *;have fn := Dn.f4;have fR := R.f;go_wp2
    have hM2 : paM l b x3 = 0 := by rw [paM_at R, if_neg (by omega)]
    have hkl2 := R.kl;go_roundw
    case rel => exact ⟨_, _, _, _, _, _, _, _, _, fun e => absurd e (by omega), Or.inr ⟨er, j, hTb, rfl, rfl, hne⟩, R, P, O, Dn, Dr, X1.le⟩
    case measure => rw [hM, hM2]; omega
   | ok c j =>
    exfalso;have hz := Rx.pk_end (l := l) (k := k0) hkE;unfold Rx.singleF at hS1;rw [if_neg (by omega), if_pos (by omega)] at hS1;cases hS1
  ·
   have hne2 : ((er : Int) == 0) = false := by rw [beq_eq_false_iff_ne]; omega
   have fr := Dr.f4;have fn := Dn.f4;have fR := R.f;go_upto_region 19 with (fail)
   repeat go_step
   clear fr fn fR;obtain ⟨Dr, Dn, R, P, O, X1⟩ := (fun o0 o1 o2 o3 => And.intro (Dr.puts4 o0 o1 o2 o3) (And.intro (Dn.fars4 (w.heap.size) (by omega) o0 o1 o2 o3) (And.intro (R.fars4 (w.heap.size) (by omega) o0 o1 o2 o3) (And.intro (P.sets4 (w.heap.size) (by omega) o0 o1 o2 o3) (And.intro (O.sets4 (w.heap.size) (by omega) o0 o1 o2 o3) (X1.sets4 (w.heap.size) (by omega) o0 o1 o2 o3)))))) (.int .u8 0) (.bool false) (.slice none 0 0) (.slice none 0 0);generalize ((((wr).setCell ⟨w.heap.size, 0, none⟩ (.int .u8 0)).setCell ⟨w.heap.size, 1, none⟩ (.bool false)).setCell ⟨w.heap.size, 2, none⟩ (.slice none 0 0)).setCell ⟨w.heap.size, 3, none⟩ (.slice none 0 0) = q9 at *;have fr := Dr.f4;have fn := Dn.f4;have fR := R.f;refine bodyPost_ret (v := ndV nd0) (by simp [results, Tryz.results83, go_sem, fr, nd0]; try rfl) rfl ?_;rw [HR.out, hT];exact ⟨nd0, _, _, _, _, _, rfl, R, P, rfl, rfl, hne⟩
end Go.Proofs.YthdoniefjmphaaaGreatDoor
namespace Go.Proofs.YthdoniefjmphaaaGreatDoor
open Go Go.Proofs Go.RowKit Go.Shelf
set_option maxRecDepth 100000
attribute [local go_sem] cell_set ndV
set_option maxHeartbeats 8000000 in
theorem set_N (b : Nat) (s : ByteArray) (l : List UInt8) (dz : Int) (k dp : Nat) (w : World) (R : Pa b s l (k : Int) dz 0 0 k dp w) (hk : k < l.length) (hlt : k + 1 < l.length) (hw : Rx.pk l (k + 1) ≠ 94) (T : Rx.Res (List (Nat × Nat))) (hT : Rx.itemsF l (l.length + 1) (k + 1) [] = T) :
  Calls Tryz.prog 83 #[.pointer (some ⟨b, 0, none⟩)] w (NP b w s l dp (setRes false T)) := by
 obtain ⟨i0, hi, hz0, hz1, hz2⟩ := info_parts info_two;have HI := Lib.hid hi;have HZ := Lib.hid hz0;have HZ1 := Lib.hid hz1;have HZ2 := Lib.hid hz2;clear hi hz0 hz1 hz2;have hsz : s.size = l.length := by rw [Lib.size_eq, R.txt]
 have hl := R.ll;have P := Kq.refl b w;have hw0 := R.cells.lt;have hST : SetSt l T (k + 1) 0 0 [] := Or.inl ⟨rfl, rfl, by simp, by simp, _, hT, by omega⟩;have HST := Lib.hid hST;clear hT hST;have d1 : decide ((k : Int) + 1 < (l.length : Int)) = true := decide_eq_true (by omega);have h1 : (k : Int) + 1 < (l.length : Int) := by omega
 have h3 : (0 : Int) ≤ (k : Int) + 1 := by omega
 have hi : k + 1 < s.size := by omega
 have e1 : ((k : Int) + 1).toNat = k + 1 := by omega
 have hx := pk_byteAt R.txt (k + 1) hi;obtain ⟨x, hxx⟩ : ∃ x, Rx.pk l (k + 1) = x := ⟨_, rfl⟩;rw [hxx] at hx hw;have d2 : ((x : Int) == 94) = false := by rw [beq_eq_false_iff_ne]; omega
 clear hxx hw;obtain ⟨r, hr⟩ : ∃ r : Rx.Res Rx.Pt, r = (setRes false T) := ⟨_, rfl⟩;rw [← hr];have HR := Lib.hid hr;clear hr;have fR := R.f;go_enter Tryz.func83, Tryz.ntmps83
 go_upto_region 2 with (fail)
 clear fR;have uR0 := R.cells.lt;have Dr := ((At.nwn (w.heap.size) (w) 0 false none 0 0 none 0 0).alloc (nC 99 false none 0 0 none 0 0))
 have Dn := (At.nwn (w.heap.size + 1) ((w).alloc (nC 0 false none 0 0 none 0 0)) 99 false none 0 0 none 0 0)
 have R := ((R.alloc (nC 0 false none 0 0 none 0 0)).alloc (nC 99 false none 0 0 none 0 0));have P := ((P.alloc (nC 0 false none 0 0 none 0 0)).alloc (nC 99 false none 0 0 none 0 0));generalize ((w).alloc (nC 0 false none 0 0 none 0 0)).alloc (nC 99 false none 0 0 none 0 0) = v00 at *;have hnr : w.heap.size < w.heap.size + 1 := Nat.lt_succ_self _;obtain ⟨nb, hnb⟩ : ∃ nb, nb = w.heap.size + 1 := ⟨_, rfl⟩;rw [← hnb] at Dn ⊢;have hrn : w.heap.size < nb := by omega
 clear hnb hnr;have fr := Dr.f4;have fn := Dn.f4;have fR := R.f;go_wp2_with fail
 clear fr fn fR;have Dr := (Dr.far (b' := b) (j := 1) (by omega) (.int .i64 ((k : Int) + 1)));have Dn := (Dn.far (b' := b) (j := 1) (by omega) (.int .i64 ((k : Int) + 1)));have R := (R.move (z' := (k : Int) + 1) (k' := k + 1) (by omega) (by omega));have P := (P.setCell (p := ⟨b, 1, none⟩) (.inr rfl) (.int .i64 ((k : Int) + 1)));generalize (v00).setCell ⟨b, 1, none⟩ (.int .i64 ((k : Int) + 1)) = v0 at *;obtain ⟨bs, hbs⟩ : ∃ bs, bs = v0.heap.size := ⟨_, rfl⟩;have hnbs : nb < bs := by have h := Dn.lt; omega
 have hbs2 : bs ≤ v0.heap.size := by omega
 clear hbs;have X0 : Kx (bs) (bs) v0 v0 := ⟨hbs2, fun _ _ _ => by omega⟩;have fr := Dr.f4;have fn := Dn.f4;have fR := R.f;go_quiet (fail)
 clear fr fn fR;have Dr := (Dr.drewN nq);have Dn := (Dn.drewN nq);have R := (R.drewN nq);have P := (P.drewN nq);have X0 := (X0.drewN nq);generalize (v0).drewN nq = v1 at *;have fr := Dr.f4;have fn := Dn.f4;have fR := R.f;go_wp2_with fail
 clear fr fn fR;have fr := Dr.f4;have fn := Dn.f4;have fR := R.f;have O := Bts.nil v1 bs;go_loopw [4, 5, 6, 7, 8] (fun v4 v5 v6 v7 v8 wr => ∃ (rs : List (Nat × Nat)) (sa : Option Addr) (n sc : Nat) (z dz1 bad pos : Int) (k : Nat), SetSt l T k bad pos rs ∧ Pa b s l z dz1 bad pos k dp wr ∧ Kq b w wr ∧ Bts bs wr sa n sc rs ∧ At wr nb [.int .u8 99, .bool false, .slice sa n sc, .slice none 0 0] ∧ At wr w.heap.size [.int .u8 0, .bool false, .slice none 0 0, .slice none 0 0] ∧ bs ≤ wr.heap.size) (fun _ _ _ _ _ wr => paM l b wr)
 case atStart => exact ⟨[], none, 0, 0, _, _, _, _, _, HST.out, R, P, O, Dn, Dr, by have h := X0.le; omega⟩
 case round =>
  clear Dn Dr R P O HST;obtain ⟨rs, sa, n, sc, z, dz1, bad, pos, k0, hst, R, P, O, Dn, Dr, hble⟩ := hrel;have hkl := R.kl;have X1 : Kx (bs) (bs) wr wr := ⟨hble, fun _ _ _ => by omega⟩;rcases hst with ⟨rfl, rfl, h126, hrl, f, hT, hf⟩ | ⟨er, j, hT, rfl, rfl, hne⟩
  ·
   obtain rfl := R.hk;have hM : paM l b wr = l.length - k0 + 1 := by rw [paM_at R, if_pos rfl]
   have HT := Lib.hid hT;have H126 := Lib.hid h126;clear hT h126;have fn := Dn.f4;have fR := R.f;go_wp2_with fail
   clear fn fR;have ltr := Dr.lt;have ltn := Dn.lt;have ltR := R.cells.lt;refine (byte1_any b s l _ _ _ _ _ R).mono ?_;rintro e w1 ⟨va, z1, dz2, bad, pos, k1, rfl, R2, P2, hs1⟩;have Dr := Dr.kq P2 (by omega);have Dn := Dn.kq P2 (by omega);have X1 := X1.kq P2 (by omega);have O := O.kq P2 (by omega);have P := P.trans P2;have P3 := P2;have R := R2;clear R2 P2;clear ltR ltr ltn;have fn := Dn.f4;have fR := R.f;clear P3;cases hS1 : Rx.singleF Rx.inL l k0 with
   | bad er j =>
    rw [hS1] at hs1;obtain ⟨rfl, rfl, hne⟩ := hs1;have hTb := set_bad HT.out hf (range_bad hS1);have hne2 : ((er : Int) == 0) = false := by rw [beq_eq_false_iff_ne]; omega
    clear hS1;go_wp2_with fail
    go_quiet (fail)
    clear fn fR;have Dr := (Dr.drewN nq);have Dn := (Dn.drewN nq);have R := (R.drewN nq);have P := (P.drewN nq);have O := (O.drewN nq);have X1 := (X1.drewN nq);generalize (w1).drewN nq = x1 at *;have fn := Dn.f4;have fR := R.f;go_wp2_with (at_builtin; refine wpList_append_own_at _ rfl _ _ 52 rfl bs 147 i0 (.agg #[.int .u8 0, .int .u8 0]) 2 2 Tryz.underlying52 HI.out HZ.out HZ1.out HZ2.out rfl (by decide) _ _ _ rfl (O.own.alloc _) ⟨x1.heap.size, 0, none⟩ 1 1 [.int .u8 (va : Int), .int .u8 (va : Int)] rfl rfl (rxcells2_new _ _ _ _) ?j1a ?j2a ?j3a ?j4a ?_)
    case j1a => first | (intro u hu; simp at hu; rcases hu with rfl | rfl <;> rfl) | exact ⟨rfl, rfl⟩
    case j2a => have h1 := O.len; unfold maxLen; omega
    case j3a => have h1 := O.len; omega
    case j4a => (try simp); have h1 := X1.le; omega
    intro v' w1a hown hgrow _ hor;obtain ⟨ga, ca, rfl, hgaa, hgba⟩ := hown.form (by omega);clear fn fR;have Dr := grown_at hgrow (Dr.alloc (.cells #[.int .u8 (va : Int), .int .u8 (va : Int)] 147)) (fun e2 => by have h1 := (O.lt _ e2).1; omega);have Dn := grown_at hgrow (Dn.alloc (.cells #[.int .u8 (va : Int), .int .u8 (va : Int)] 147)) (fun e2 => by have h1 := (O.lt _ e2).1; omega);have X1 := (X1.alloc (.cells #[.int .u8 (va : Int), .int .u8 (va : Int)] 147)).grown hgrow (fun g e2 => by have h1 := O.lt _ e2; omega);have R := (R.alloc (.cells #[.int .u8 (va : Int), .int .u8 (va : Int)] 147)).grown hgrow (fun e2 => by have h1 := (O.lt _ e2).1; omega);have P := (P.alloc (.cells #[.int .u8 (va : Int), .int .u8 (va : Int)] 147)).grown hgrow (fun g e2 => by have h1 := (O.lt _ e2).1; omega);have O := O.snoc va va hown (by have h1 := O.hn; omega);clear hown hgrow hor;have fn := Dn.f4;have fR := R.f;go_wp2_with fail
    clear fn fR;have Dr := (Dr.far (b' := nb) (j := 2) (by omega) (.slice (some ⟨ga, 0, none⟩) (n + 1) ca));have Dn : At ((w1a).setCell ⟨nb, 2, none⟩ (.slice (some ⟨ga, 0, none⟩) (n + 1) ca)) (nb) [.int .u8 99, .bool false, .slice (some ⟨ga, 0, none⟩) (n + 1) ca, .slice none 0 0] := (Dn.set 2 (.slice (some ⟨ga, 0, none⟩) (n + 1) ca));obtain ⟨R, P, O, X1⟩ := (fun o => And.intro (R.far (c := nb) 2 (by omega) o) (And.intro (P.setCell (p := ⟨nb, 2, none⟩) (.inl (by dsimp only; omega)) o) (And.intro (O.setCell (p := ⟨nb, 2, none⟩) (by dsimp only; omega) o) (X1.setCell (p := ⟨nb, 2, none⟩) (by dsimp only; omega) o)))) (.slice (some ⟨ga, 0, none⟩) (n + 1) ca);generalize (w1a).setCell ⟨nb, 2, none⟩ (.slice (some ⟨ga, 0, none⟩) (n + 1) ca) = x2 at *;have fn := Dn.f4;have fR := R.f;go_quiet (fail)
    clear fn fR;have Dr := (Dr.drewN nq);have Dn := (Dn.drewN nq);have R := (R.drewN nq);have P := (P.drewN nq);have O := (O.drewN nq);have X1 := (X1.drewN nq);generalize (x2).drewN nq = x3 at *;have fn := Dn.f4;have fR := R.f;go_wp2
    have hM2 : paM l b x3 = 0 := by rw [paM_at R, if_neg (by omega)]
    have hkl2 := R.kl;go_roundw
    case rel => exact ⟨_, _, _, _, _, _, _, _, _, Or.inr ⟨er, j, hTb, rfl, rfl, hne⟩, R, P, O, Dn, Dr, X1.le⟩
    case measure => rw [hM, hM2]; omega
   | ok c j =>
    rw [hS1] at hs1;obtain ⟨rfl, rfl, rfl, rfl⟩ := hs1;obtain rfl := R.hk;have hg := Rx.single_goes Rx.inL hkl;rw [hS1] at hg;obtain ⟨hg1, hg2, hg3, hg4⟩ := hg;have HS1 := Lib.hid hS1;clear hS1;by_cases h45 : Rx.pk l k1 = 45
    ·
     have hlt1 : k1 < l.length := Rx.pk_lt (by omega);have hxs := pk_byteAt R.txt k1 (by omega);rw [h45] at hxs;have hqls : (k1 : Int) < (l.length : Int) := by omega
     have hqms : (0 : Int) ≤ (k1 : Int) := by omega
     have his : k1 < s.size := by omega
     have H45 := Lib.hid h45;clear h45;clear fn fR;have fn := Dn.f4;have fR := R.f;go_wp2_with fail
     go_quiet (fail)
     clear fn fR;have Dr := (Dr.drewN nq);have Dn := (Dn.drewN nq);have R := (R.drewN nq);have P := (P.drewN nq);have O := (O.drewN nq);have X1 := (X1.drewN nq);generalize (w1).drewN nq = s1 at *;have fn := Dn.f4;have fR := R.f;go_wp2_with fail
     clear fn fR;have Dr := (Dr.far (b' := b) (j := 1) (by omega) (.int .i64 ((k1 : Int) + 1)));have Dn := (Dn.far (b' := b) (j := 1) (by omega) (.int .i64 ((k1 : Int) + 1)));have R := (R.move (z' := (k1 : Int) + 1) (k' := k1 + 1) (by omega) (by omega));have P := (P.setCell (p := ⟨b, 1, none⟩) (.inr rfl) (.int .i64 ((k1 : Int) + 1)));have O := (O.setCell (p := ⟨b, 1, none⟩) (by dsimp only; omega) (.int .i64 ((k1 : Int) + 1)));have X1 := (X1.setCell (p := ⟨b, 1, none⟩) (by dsimp only; omega) (.int .i64 ((k1 : Int) + 1)));generalize (s1).setCell ⟨b, 1, none⟩ (.int .i64 ((k1 : Int) + 1)) = s2 at *;have fn := Dn.f4;have fR := R.f;clear fn fR;have ltr := Dr.lt;have ltn := Dn.lt;have ltR := R.cells.lt;refine (byte1_any b s l _ _ _ _ _ R).mono ?_;rintro e w2 ⟨vb, z3, dz3, bad, pos, k2, rfl, R2, P2, hs2⟩;have Dr := Dr.kq P2 (by omega);have Dn := Dn.kq P2 (by omega);have X1 := X1.kq P2 (by omega);have O := O.kq P2 (by omega);have P := P.trans P2;have P3 := P2;have R := R2;clear R2 P2;clear ltR ltr ltn;have fn := Dn.f4;have fR := R.f;clear P3;cases hS2 : Rx.singleF Rx.inL l (k1 + 1) with
     | bad er j =>
      rw [hS2] at hs2;obtain ⟨rfl, rfl, hne⟩ := hs2;have hTb := set_bad HT.out hf (range_bad2 HS1.out H45.out hS2);have hne2 : ((er : Int) == 0) = false := by rw [beq_eq_false_iff_ne]; omega
      clear hS2;go_wp2_with (at_builtin; refine wpList_append_own_at _ rfl _ _ 52 rfl bs 147 i0 (.agg #[.int .u8 0, .int .u8 0]) 2 2 Tryz.underlying52 HI.out HZ.out HZ1.out HZ2.out rfl (by decide) _ _ _ rfl (O.own.alloc _) ⟨w2.heap.size, 0, none⟩ 1 1 [.int .u8 (va : Int), .int .u8 (vb : Int)] rfl rfl (rxcells2_new _ _ _ _) ?j1c ?j2c ?j3c ?j4c ?_)
      case j1c => first | (intro u hu; simp at hu; rcases hu with rfl | rfl <;> rfl) | exact ⟨rfl, rfl⟩
      case j2c => have h1 := O.len; unfold maxLen; omega
      case j3c => have h1 := O.len; omega
      case j4c => (try simp); have h1 := X1.le; omega
      intro v' w1c hown hgrow _ hor;obtain ⟨ga, ca, rfl, hgac, hgbc⟩ := hown.form (by omega);clear fn fR;have Dr := grown_at hgrow (Dr.alloc (.cells #[.int .u8 (va : Int), .int .u8 (vb : Int)] 147)) (fun e2 => by have h1 := (O.lt _ e2).1; omega);have Dn := grown_at hgrow (Dn.alloc (.cells #[.int .u8 (va : Int), .int .u8 (vb : Int)] 147)) (fun e2 => by have h1 := (O.lt _ e2).1; omega);have X1 := (X1.alloc (.cells #[.int .u8 (va : Int), .int .u8 (vb : Int)] 147)).grown hgrow (fun g e2 => by have h1 := O.lt _ e2; omega);have R := (R.alloc (.cells #[.int .u8 (va : Int), .int .u8 (vb : Int)] 147)).grown hgrow (fun e2 => by have h1 := (O.lt _ e2).1; omega);have P := (P.alloc (.cells #[.int .u8 (va : Int), .int .u8 (vb : Int)] 147)).grown hgrow (fun g e2 => by have h1 := (O.lt _ e2).1; omega);have O := O.snoc va vb hown (by have h1 := O.hn; omega);clear hown hgrow hor;have fn := Dn.f4;have fR := R.f;go_wp2_with fail
      clear fn fR;have Dr := (Dr.far (b' := nb) (j := 2) (by omega) (.slice (some ⟨ga, 0, none⟩) (n + 1) ca));have Dn : At ((w1c).setCell ⟨nb, 2, none⟩ (.slice (some ⟨ga, 0, none⟩) (n + 1) ca)) (nb) [.int .u8 99, .bool false, .slice (some ⟨ga, 0, none⟩) (n + 1) ca, .slice none 0 0] := (Dn.set 2 (.slice (some ⟨ga, 0, none⟩) (n + 1) ca));obtain ⟨R, P, O, X1⟩ := (fun o => And.intro (R.far (c := nb) 2 (by omega) o) (And.intro (P.setCell (p := ⟨nb, 2, none⟩) (.inl (by dsimp only; omega)) o) (And.intro (O.setCell (p := ⟨nb, 2, none⟩) (by dsimp only; omega) o) (X1.setCell (p := ⟨nb, 2, none⟩) (by dsimp only; omega) o)))) (.slice (some ⟨ga, 0, none⟩) (n + 1) ca);generalize (w1c).setCell ⟨nb, 2, none⟩ (.slice (some ⟨ga, 0, none⟩) (n + 1) ca) = yc at *;have fn := Dn.f4;have fR := R.f;go_quiet (fail)
      clear fn fR;have Dr := (Dr.drewN nq);have Dn := (Dn.drewN nq);have R := (R.drewN nq);have P := (P.drewN nq);have O := (O.drewN nq);have X1 := (X1.drewN nq);generalize (yc).drewN nq = zc at *;have fn := Dn.f4;have fR := R.f;go_wp2
      have hM2 : paM l b zc = 0 := by rw [paM_at R, if_neg (by omega)]
      have hkl2 := R.kl;go_roundw
      case rel => exact ⟨_, _, _, _, _, _, _, _, _, Or.inr ⟨er, j, hTb, rfl, rfl, hne⟩, R, P, O, Dn, Dr, X1.le⟩
      case measure => rw [hM, hM2]; omega
     | ok c j =>
      rw [hS2] at hs2;obtain ⟨rfl, rfl, rfl, rfl⟩ := hs2;obtain rfl := R.hk;have hg := Rx.single_goes Rx.inL (l := l) (k := k1 + 1) (by omega);rw [hS2] at hg;obtain ⟨hg5, hg6, hg7, hg8⟩ := hg;have HS2 := Lib.hid hS2;clear hS2;by_cases hfall : vb < va
      ·
       have df : decide ((vb : Int) < (va : Int)) = true := decide_eq_true (by omega);have df2 : decide (vb < va) = true := decide_eq_true hfall;have hTb := set_bad HT.out hf (range_fall HS1.out H45.out HS2.out hfall);clear hfall;go_wp2_with fail
       clear fn fR;have ltr := Dr.lt;have ltn := Dn.lt;have ltR := R.cells.lt;refine (pfail_any b s l _ _ _ _ _ _ _ _ R).mono ?_;rintro e w3 ⟨rfl, R2, P2⟩;have Dr := Dr.kq P2 (by omega);have Dn := Dn.kq P2 (by omega);have X1 := X1.kq P2 (by omega);have O := O.kq P2 (by omega);have P := P.trans P2;have P3 := P2;have R := R2;clear R2 P2;clear ltR ltr ltn;have fn := Dn.f4;have fR := R.f;go_wp2_with (at_builtin; refine wpList_append_own_at _ rfl _ _ 52 rfl bs 147 i0 (.agg #[.int .u8 0, .int .u8 0]) 2 2 Tryz.underlying52 HI.out HZ.out HZ1.out HZ2.out rfl (by decide) _ _ _ rfl (O.own.alloc _) ⟨w3.heap.size, 0, none⟩ 1 1 [.int .u8 (va : Int), .int .u8 (vb : Int)] rfl rfl (rxcells2_new _ _ _ _) ?j1d ?j2d ?j3d ?j4d ?_)
       case j1d => first | (intro u hu; simp at hu; rcases hu with rfl | rfl <;> rfl) | exact ⟨rfl, rfl⟩
       case j2d => have h1 := O.len; unfold maxLen; omega
       case j3d => have h1 := O.len; omega
       case j4d => (try simp); have h1 := X1.le; omega
       intro v' w1d hown hgrow _ hor;obtain ⟨ga, ca, rfl, hgad, hgbd⟩ := hown.form (by omega);clear fn fR;have Dr := grown_at hgrow (Dr.alloc (.cells #[.int .u8 (va : Int), .int .u8 (vb : Int)] 147)) (fun e2 => by have h1 := (O.lt _ e2).1; omega);have Dn := grown_at hgrow (Dn.alloc (.cells #[.int .u8 (va : Int), .int .u8 (vb : Int)] 147)) (fun e2 => by have h1 := (O.lt _ e2).1; omega);have X1 := (X1.alloc (.cells #[.int .u8 (va : Int), .int .u8 (vb : Int)] 147)).grown hgrow (fun g e2 => by have h1 := O.lt _ e2; omega);have R := (R.alloc (.cells #[.int .u8 (va : Int), .int .u8 (vb : Int)] 147)).grown hgrow (fun e2 => by have h1 := (O.lt _ e2).1; omega);have P := (P.alloc (.cells #[.int .u8 (va : Int), .int .u8 (vb : Int)] 147)).grown hgrow (fun g e2 => by have h1 := (O.lt _ e2).1; omega);have O := O.snoc va vb hown (by have h1 := O.hn; omega);clear hown hgrow hor;have fn := Dn.f4;have fR := R.f;go_wp2_with fail
       clear fn fR;have Dr := (Dr.far (b' := nb) (j := 2) (by omega) (.slice (some ⟨ga, 0, none⟩) (n + 1) ca));have Dn : At ((w1d).setCell ⟨nb, 2, none⟩ (.slice (some ⟨ga, 0, none⟩) (n + 1) ca)) (nb) [.int .u8 99, .bool false, .slice (some ⟨ga, 0, none⟩) (n + 1) ca, .slice none 0 0] := (Dn.set 2 (.slice (some ⟨ga, 0, none⟩) (n + 1) ca));obtain ⟨R, P, O, X1⟩ := (fun o => And.intro (R.far (c := nb) 2 (by omega) o) (And.intro (P.setCell (p := ⟨nb, 2, none⟩) (.inl (by dsimp only; omega)) o) (And.intro (O.setCell (p := ⟨nb, 2, none⟩) (by dsimp only; omega) o) (X1.setCell (p := ⟨nb, 2, none⟩) (by dsimp only; omega) o)))) (.slice (some ⟨ga, 0, none⟩) (n + 1) ca);generalize (w1d).setCell ⟨nb, 2, none⟩ (.slice (some ⟨ga, 0, none⟩) (n + 1) ca) = yd at *;have fn := Dn.f4;have fR := R.f;go_quiet (fail)
       clear fn fR;have Dr := (Dr.drewN nq);have Dn := (Dn.drewN nq);have R := (R.drewN nq);have P := (P.drewN nq);have O := (O.drewN nq);have X1 := (X1.drewN nq);generalize (yd).drewN nq = zd at *;have fn := Dn.f4;have fR := R.f;go_wp2
       have hM2 : paM l b zd = 0 := by rw [paM_at R, if_neg (by omega)]
       have hkl2 := R.kl;go_roundw
       case rel => exact ⟨_, _, _, _, _, _, _, _, _, Or.inr ⟨2, k1 + 1, hTb, rfl, rfl, by decide⟩, R, P, O, Dn, Dr, X1.le⟩
       case measure => rw [hM, hM2]; omega
      ·
       have df : decide ((vb : Int) < (va : Int)) = false := decide_eq_false (by omega);have df2 : decide (vb < va) = false := decide_eq_false hfall;have HF := Lib.hid hfall;clear hfall;by_cases hqg : k2 < l.length
       ·
        by_cases h93 : Rx.pk l k2 = 93
        ·
         have hxg := pk_byteAt R.txt k2 (by omega);rw [h93] at hxg;have hqlg : (k2 : Int) < (l.length : Int) := by omega
         have hqmg : (0 : Int) ≤ (k2 : Int) := by omega
         go_wp2_with (at_builtin; refine wpList_append_own_at _ rfl _ _ 52 rfl bs 147 i0 (.agg #[.int .u8 0, .int .u8 0]) 2 2 Tryz.underlying52 HI.out HZ.out HZ1.out HZ2.out rfl (by decide) _ _ _ rfl (O.own.alloc _) ⟨w2.heap.size, 0, none⟩ 1 1 [.int .u8 (va : Int), .int .u8 (vb : Int)] rfl rfl (rxcells2_new _ _ _ _) ?j1ge ?j2ge ?j3ge ?j4ge ?_)
         case j1ge => first | (intro u hu; simp at hu; rcases hu with rfl | rfl <;> rfl) | exact ⟨rfl, rfl⟩
         case j2ge => have h1 := O.len; unfold maxLen; omega
         case j3ge => have h1 := O.len; omega
         case j4ge => (try simp); have h1 := X1.le; omega
         intro v' w1ge hown hgrow _ hor;obtain ⟨ga, ca, rfl, hgage, hgbge⟩ := hown.form (by omega);clear fn fR;have Dr := grown_at hgrow (Dr.alloc (.cells #[.int .u8 (va : Int), .int .u8 (vb : Int)] 147)) (fun e2 => by have h1 := (O.lt _ e2).1; omega);have Dn := grown_at hgrow (Dn.alloc (.cells #[.int .u8 (va : Int), .int .u8 (vb : Int)] 147)) (fun e2 => by have h1 := (O.lt _ e2).1; omega);have X1 := (X1.alloc (.cells #[.int .u8 (va : Int), .int .u8 (vb : Int)] 147)).grown hgrow (fun g e2 => by have h1 := O.lt _ e2; omega);have R := (R.alloc (.cells #[.int .u8 (va : Int), .int .u8 (vb : Int)] 147)).grown hgrow (fun e2 => by have h1 := (O.lt _ e2).1; omega);have P := (P.alloc (.cells #[.int .u8 (va : Int), .int .u8 (vb : Int)] 147)).grown hgrow (fun g e2 => by have h1 := (O.lt _ e2).1; omega);have O := O.snoc va vb hown (by have h1 := O.hn; omega);clear hown hgrow hor;have fn := Dn.f4;have fR := R.f;go_wp2_with fail
         clear fn fR;have Dr := (Dr.far (b' := nb) (j := 2) (by omega) (.slice (some ⟨ga, 0, none⟩) (n + 1) ca));have Dn : At ((w1ge).setCell ⟨nb, 2, none⟩ (.slice (some ⟨ga, 0, none⟩) (n + 1) ca)) (nb) [.int .u8 99, .bool false, .slice (some ⟨ga, 0, none⟩) (n + 1) ca, .slice none 0 0] := (Dn.set 2 (.slice (some ⟨ga, 0, none⟩) (n + 1) ca));obtain ⟨R, P, O, X1⟩ := (fun o => And.intro (R.far (c := nb) 2 (by omega) o) (And.intro (P.setCell (p := ⟨nb, 2, none⟩) (.inl (by dsimp only; omega)) o) (And.intro (O.setCell (p := ⟨nb, 2, none⟩) (by dsimp only; omega) o) (X1.setCell (p := ⟨nb, 2, none⟩) (by dsimp only; omega) o)))) (.slice (some ⟨ga, 0, none⟩) (n + 1) ca);generalize (w1ge).setCell ⟨nb, 2, none⟩ (.slice (some ⟨ga, 0, none⟩) (n + 1) ca) = yge at *;have fn := Dn.f4;have fR := R.f;go_quiet (fail)
         clear fn fR;have Dr := (Dr.drewN nq);have Dn := (Dn.drewN nq);have R := (R.drewN nq);have P := (P.drewN nq);have O := (O.drewN nq);have X1 := (X1.drewN nq);generalize (yge).drewN nq = zge at *;have fr := Dr.f4;have fn := Dn.f4;have fR := R.f;go_upto_region 18 with (fail)
         clear fr fn fR;have Dr := (Dr.far (b' := b) (j := 1) (by omega) (.int .i64 ((k2 : Int) + 1)));have Dn := (Dn.far (b' := b) (j := 1) (by omega) (.int .i64 ((k2 : Int) + 1)));have R := (R.move (z' := (k2 : Int) + 1) (k' := k2 + 1) (by omega) (by omega));have P := (P.setCell (p := ⟨b, 1, none⟩) (.inr rfl) (.int .i64 ((k2 : Int) + 1)));have O := (O.setCell (p := ⟨b, 1, none⟩) (by dsimp only; omega) (.int .i64 ((k2 : Int) + 1)));have X1 := (X1.setCell (p := ⟨b, 1, none⟩) (by dsimp only; omega) (.int .i64 ((k2 : Int) + 1)));generalize (zge).setCell ⟨b, 1, none⟩ (.int .i64 ((k2 : Int) + 1)) = gge at *;have fr := Dr.f4;have fn := Dn.f4;have fR := R.f
         repeat go_step
         clear fr fn fR;obtain ⟨Dr, Dn, R, P, O, X1⟩ := (fun o0 o1 o2 o3 => And.intro (Dr.puts4 o0 o1 o2 o3) (And.intro (Dn.fars4 (w.heap.size) (by omega) o0 o1 o2 o3) (And.intro (R.fars4 (w.heap.size) (by omega) o0 o1 o2 o3) (And.intro (P.sets4 (w.heap.size) (by omega) o0 o1 o2 o3) (And.intro (O.sets4 (w.heap.size) (by omega) o0 o1 o2 o3) (X1.sets4 (w.heap.size) (by omega) o0 o1 o2 o3)))))) (.int .u8 99) (.bool false) (.slice (some ⟨ga, 0, none⟩) (n + 1) ca) (.slice none 0 0);generalize ((((gge).setCell ⟨w.heap.size, 0, none⟩ (.int .u8 99)).setCell ⟨w.heap.size, 1, none⟩ (.bool false)).setCell ⟨w.heap.size, 2, none⟩ (.slice (some ⟨ga, 0, none⟩) (n + 1) ca)).setCell ⟨w.heap.size, 3, none⟩ (.slice none 0 0) = fge at *;have fr := Dr.f4;have fn := Dn.f4;have fR := R.f;have hTe := set_end HT.out hf (range_two HS1.out H45.out HS2.out HF.out) h93;have h127 : ∀ r ∈ rs ++ [(va, vb)], r.2 ≤ 126 := fun q hq => by
          rcases List.mem_append.1 hq with h | h
          ·
           exact H126.out q h
          ·
           rw [List.mem_singleton.1 h]; simp; omega
         have hset := (O.is (by omega)).keep (S' := Rng w fge) (w' := fge) (fun g hg => ⟨by have := hg.1; omega, hg.2⟩) (fun _ _ => rfl);refine bodyPost_ret (v := ndV ⟨99, false, some ⟨ga, 0, none⟩, n + 1, ca, none, 0, 0⟩) (by simp [results, Tryz.results83, go_sem, fr]; try rfl) rfl ?_;rw [HR.out, hTe];exact ⟨⟨99, false, some ⟨ga, 0, none⟩, n + 1, ca, none, 0, 0⟩, _, _, _, _, _, rfl, R, P, rfl, rfl, rfl, 1, Or.inl ⟨_, rfl, hset, h127, rfl⟩⟩
        ·
         have hxg := pk_byteAt R.txt k2 (by omega);have hqlg : (k2 : Int) < (l.length : Int) := by omega
         have hqmg : (0 : Int) ≤ (k2 : Int) := by omega
         obtain ⟨xg, hxxg⟩ : ∃ x, Rx.pk l k2 = x := ⟨_, rfl⟩;rw [hxxg] at hxg;have d93g : ((xg : Int) == 93) = false := by rw [beq_eq_false_iff_ne]; omega
         have HXXg := Lib.hid hxxg;clear hxxg;go_wp2_with (at_builtin; refine wpList_append_own_at _ rfl _ _ 52 rfl bs 147 i0 (.agg #[.int .u8 0, .int .u8 0]) 2 2 Tryz.underlying52 HI.out HZ.out HZ1.out HZ2.out rfl (by decide) _ _ _ rfl (O.own.alloc _) ⟨w2.heap.size, 0, none⟩ 1 1 [.int .u8 (va : Int), .int .u8 (vb : Int)] rfl rfl (rxcells2_new _ _ _ _) ?j1gm ?j2gm ?j3gm ?j4gm ?_)
         case j1gm => first | (intro u hu; simp at hu; rcases hu with rfl | rfl <;> rfl) | exact ⟨rfl, rfl⟩
         case j2gm => have h1 := O.len; unfold maxLen; omega
         case j3gm => have h1 := O.len; omega
         case j4gm => (try simp); have h1 := X1.le; omega
         intro v' w1gm hown hgrow _ hor;obtain ⟨ga, ca, rfl, hgagm, hgbgm⟩ := hown.form (by omega);clear fn fR;have Dr := grown_at hgrow (Dr.alloc (.cells #[.int .u8 (va : Int), .int .u8 (vb : Int)] 147)) (fun e2 => by have h1 := (O.lt _ e2).1; omega);have Dn := grown_at hgrow (Dn.alloc (.cells #[.int .u8 (va : Int), .int .u8 (vb : Int)] 147)) (fun e2 => by have h1 := (O.lt _ e2).1; omega);have X1 := (X1.alloc (.cells #[.int .u8 (va : Int), .int .u8 (vb : Int)] 147)).grown hgrow (fun g e2 => by have h1 := O.lt _ e2; omega);have R := (R.alloc (.cells #[.int .u8 (va : Int), .int .u8 (vb : Int)] 147)).grown hgrow (fun e2 => by have h1 := (O.lt _ e2).1; omega);have P := (P.alloc (.cells #[.int .u8 (va : Int), .int .u8 (vb : Int)] 147)).grown hgrow (fun g e2 => by have h1 := (O.lt _ e2).1; omega);have O := O.snoc va vb hown (by have h1 := O.hn; omega);clear hown hgrow hor;have fn := Dn.f4;have fR := R.f;go_wp2_with fail
         clear fn fR;have Dr := (Dr.far (b' := nb) (j := 2) (by omega) (.slice (some ⟨ga, 0, none⟩) (n + 1) ca));have Dn : At ((w1gm).setCell ⟨nb, 2, none⟩ (.slice (some ⟨ga, 0, none⟩) (n + 1) ca)) (nb) [.int .u8 99, .bool false, .slice (some ⟨ga, 0, none⟩) (n + 1) ca, .slice none 0 0] := (Dn.set 2 (.slice (some ⟨ga, 0, none⟩) (n + 1) ca));obtain ⟨R, P, O, X1⟩ := (fun o => And.intro (R.far (c := nb) 2 (by omega) o) (And.intro (P.setCell (p := ⟨nb, 2, none⟩) (.inl (by dsimp only; omega)) o) (And.intro (O.setCell (p := ⟨nb, 2, none⟩) (by dsimp only; omega) o) (X1.setCell (p := ⟨nb, 2, none⟩) (by dsimp only; omega) o)))) (.slice (some ⟨ga, 0, none⟩) (n + 1) ca);generalize (w1gm).setCell ⟨nb, 2, none⟩ (.slice (some ⟨ga, 0, none⟩) (n + 1) ca) = ygm at *;have fn := Dn.f4;have fR := R.f;go_quiet (fail)
         clear fn fR;have Dr := (Dr.drewN nq);have Dn := (Dn.drewN nq);have R := (R.drewN nq);have P := (P.drewN nq);have O := (O.drewN nq);have X1 := (X1.drewN nq);generalize (ygm).drewN nq = zgm at *;have fn := Dn.f4;have fR := R.f;go_wp2
         have hM2 : paM l b zgm = l.length - k2 + 1 := by rw [paM_at R, if_pos rfl]
         have hkl2 := R.kl;go_roundw
         case rel => exact ⟨_, _, _, _, _, _, _, _, _, set_more HT.out hf hkl (range_two HS1.out H45.out HS2.out HF.out) (h93) H126.out (by have h1 := O.hn; omega), R, P, O, Dn, Dr, X1.le⟩
         case measure => rw [hM, hM2]; omega
       ·
        have hzg := Rx.pk_end (l := l) (k := k2) (by omega);have dqg : decide ((k2 : Int) < (l.length : Int)) = false := decide_eq_false (by omega);have HZg := Lib.hid hzg;clear hzg;go_wp2_with (at_builtin; refine wpList_append_own_at _ rfl _ _ 52 rfl bs 147 i0 (.agg #[.int .u8 0, .int .u8 0]) 2 2 Tryz.underlying52 HI.out HZ.out HZ1.out HZ2.out rfl (by decide) _ _ _ rfl (O.own.alloc _) ⟨w2.heap.size, 0, none⟩ 1 1 [.int .u8 (va : Int), .int .u8 (vb : Int)] rfl rfl (rxcells2_new _ _ _ _) ?j1gn ?j2gn ?j3gn ?j4gn ?_)
        case j1gn => first | (intro u hu; simp at hu; rcases hu with rfl | rfl <;> rfl) | exact ⟨rfl, rfl⟩
        case j2gn => have h1 := O.len; unfold maxLen; omega
        case j3gn => have h1 := O.len; omega
        case j4gn => (try simp); have h1 := X1.le; omega
        intro v' w1gn hown hgrow _ hor;obtain ⟨ga, ca, rfl, hgagn, hgbgn⟩ := hown.form (by omega);clear fn fR;have Dr := grown_at hgrow (Dr.alloc (.cells #[.int .u8 (va : Int), .int .u8 (vb : Int)] 147)) (fun e2 => by have h1 := (O.lt _ e2).1; omega);have Dn := grown_at hgrow (Dn.alloc (.cells #[.int .u8 (va : Int), .int .u8 (vb : Int)] 147)) (fun e2 => by have h1 := (O.lt _ e2).1; omega);have X1 := (X1.alloc (.cells #[.int .u8 (va : Int), .int .u8 (vb : Int)] 147)).grown hgrow (fun g e2 => by have h1 := O.lt _ e2; omega);have R := (R.alloc (.cells #[.int .u8 (va : Int), .int .u8 (vb : Int)] 147)).grown hgrow (fun e2 => by have h1 := (O.lt _ e2).1; omega);have P := (P.alloc (.cells #[.int .u8 (va : Int), .int .u8 (vb : Int)] 147)).grown hgrow (fun g e2 => by have h1 := (O.lt _ e2).1; omega);have O := O.snoc va vb hown (by have h1 := O.hn; omega);clear hown hgrow hor;have fn := Dn.f4;have fR := R.f;go_wp2_with fail
        clear fn fR;have Dr := (Dr.far (b' := nb) (j := 2) (by omega) (.slice (some ⟨ga, 0, none⟩) (n + 1) ca));have Dn : At ((w1gn).setCell ⟨nb, 2, none⟩ (.slice (some ⟨ga, 0, none⟩) (n + 1) ca)) (nb) [.int .u8 99, .bool false, .slice (some ⟨ga, 0, none⟩) (n + 1) ca, .slice none 0 0] := (Dn.set 2 (.slice (some ⟨ga, 0, none⟩) (n + 1) ca));obtain ⟨R, P, O, X1⟩ := (fun o => And.intro (R.far (c := nb) 2 (by omega) o) (And.intro (P.setCell (p := ⟨nb, 2, none⟩) (.inl (by dsimp only; omega)) o) (And.intro (O.setCell (p := ⟨nb, 2, none⟩) (by dsimp only; omega) o) (X1.setCell (p := ⟨nb, 2, none⟩) (by dsimp only; omega) o)))) (.slice (some ⟨ga, 0, none⟩) (n + 1) ca);generalize (w1gn).setCell ⟨nb, 2, none⟩ (.slice (some ⟨ga, 0, none⟩) (n + 1) ca) = ygn at *;have fn := Dn.f4;have fR := R.f;go_quiet (fail)
        clear fn fR;have Dr := (Dr.drewN nq);have Dn := (Dn.drewN nq);have R := (R.drewN nq);have P := (P.drewN nq);have O := (O.drewN nq);have X1 := (X1.drewN nq);generalize (ygn).drewN nq = zgn at *;have fn := Dn.f4;have fR := R.f;go_wp2
        have hM2 : paM l b zgn = l.length - k2 + 1 := by rw [paM_at R, if_pos rfl]
        have hkl2 := R.kl;go_roundw
        case rel => exact ⟨_, _, _, _, _, _, _, _, _, set_more HT.out hf hkl (range_two HS1.out H45.out HS2.out HF.out) (by rw [HZg.out]; decide) H126.out (by have h1 := O.hn; omega), R, P, O, Dn, Dr, X1.le⟩
        case measure => rw [hM, hM2]; omega
    ·
     by_cases hqb : k1 < l.length
     ·
      by_cases h93 : Rx.pk l k1 = 93
      ·
       have hxb := pk_byteAt R.txt k1 (by omega);rw [h93] at hxb;have hqlb : (k1 : Int) < (l.length : Int) := by omega
       have hqmb : (0 : Int) ≤ (k1 : Int) := by omega
       clear fn fR;have fn := Dn.f4;have fR := R.f;go_wp2_with fail
       go_quiet (fail)
       clear fn fR;have Dr := (Dr.drewN nq);have Dn := (Dn.drewN nq);have R := (R.drewN nq);have P := (P.drewN nq);have O := (O.drewN nq);have X1 := (X1.drewN nq);generalize (w1).drewN nq = xbe at *;have fn := Dn.f4;have fR := R.f;go_wp2_with (at_builtin; refine wpList_append_own_at _ rfl _ _ 52 rfl bs 147 i0 (.agg #[.int .u8 0, .int .u8 0]) 2 2 Tryz.underlying52 HI.out HZ.out HZ1.out HZ2.out rfl (by decide) _ _ _ rfl (O.own.alloc _) ⟨xbe.heap.size, 0, none⟩ 1 1 [.int .u8 (va : Int), .int .u8 (va : Int)] rfl rfl (rxcells2_new _ _ _ _) ?j1be ?j2be ?j3be ?j4be ?_)
       case j1be => first | (intro u hu; simp at hu; rcases hu with rfl | rfl <;> rfl) | exact ⟨rfl, rfl⟩
       case j2be => have h1 := O.len; unfold maxLen; omega
       case j3be => have h1 := O.len; omega
       case j4be => (try simp); have h1 := X1.le; omega
       intro v' w1be hown hgrow _ hor;obtain ⟨ga, ca, rfl, hgabe, hgbbe⟩ := hown.form (by omega);clear fn fR;have Dr := grown_at hgrow (Dr.alloc (.cells #[.int .u8 (va : Int), .int .u8 (va : Int)] 147)) (fun e2 => by have h1 := (O.lt _ e2).1; omega);have Dn := grown_at hgrow (Dn.alloc (.cells #[.int .u8 (va : Int), .int .u8 (va : Int)] 147)) (fun e2 => by have h1 := (O.lt _ e2).1; omega);have X1 := (X1.alloc (.cells #[.int .u8 (va : Int), .int .u8 (va : Int)] 147)).grown hgrow (fun g e2 => by have h1 := O.lt _ e2; omega);have R := (R.alloc (.cells #[.int .u8 (va : Int), .int .u8 (va : Int)] 147)).grown hgrow (fun e2 => by have h1 := (O.lt _ e2).1; omega);have P := (P.alloc (.cells #[.int .u8 (va : Int), .int .u8 (va : Int)] 147)).grown hgrow (fun g e2 => by have h1 := (O.lt _ e2).1; omega);have O := O.snoc va va hown (by have h1 := O.hn; omega);clear hown hgrow hor;have fn := Dn.f4;have fR := R.f;go_wp2_with fail
       clear fn fR;have Dr := (Dr.far (b' := nb) (j := 2) (by omega) (.slice (some ⟨ga, 0, none⟩) (n + 1) ca));have Dn : At ((w1be).setCell ⟨nb, 2, none⟩ (.slice (some ⟨ga, 0, none⟩) (n + 1) ca)) (nb) [.int .u8 99, .bool false, .slice (some ⟨ga, 0, none⟩) (n + 1) ca, .slice none 0 0] := (Dn.set 2 (.slice (some ⟨ga, 0, none⟩) (n + 1) ca));obtain ⟨R, P, O, X1⟩ := (fun o => And.intro (R.far (c := nb) 2 (by omega) o) (And.intro (P.setCell (p := ⟨nb, 2, none⟩) (.inl (by dsimp only; omega)) o) (And.intro (O.setCell (p := ⟨nb, 2, none⟩) (by dsimp only; omega) o) (X1.setCell (p := ⟨nb, 2, none⟩) (by dsimp only; omega) o)))) (.slice (some ⟨ga, 0, none⟩) (n + 1) ca);generalize (w1be).setCell ⟨nb, 2, none⟩ (.slice (some ⟨ga, 0, none⟩) (n + 1) ca) = ybe at *;have fn := Dn.f4;have fR := R.f;go_quiet (fail)
       clear fn fR;have Dr := (Dr.drewN nq);have Dn := (Dn.drewN nq);have R := (R.drewN nq);have P := (P.drewN nq);have O := (O.drewN nq);have X1 := (X1.drewN nq);generalize (ybe).drewN nq = zbe at *;have fr := Dr.f4;have fn := Dn.f4;have fR := R.f;go_upto_region 18 with (fail)
       clear fr fn fR;have Dr := (Dr.far (b' := b) (j := 1) (by omega) (.int .i64 ((k1 : Int) + 1)));have Dn := (Dn.far (b' := b) (j := 1) (by omega) (.int .i64 ((k1 : Int) + 1)));have R := (R.move (z' := (k1 : Int) + 1) (k' := k1 + 1) (by omega) (by omega));have P := (P.setCell (p := ⟨b, 1, none⟩) (.inr rfl) (.int .i64 ((k1 : Int) + 1)));have O := (O.setCell (p := ⟨b, 1, none⟩) (by dsimp only; omega) (.int .i64 ((k1 : Int) + 1)));have X1 := (X1.setCell (p := ⟨b, 1, none⟩) (by dsimp only; omega) (.int .i64 ((k1 : Int) + 1)));generalize (zbe).setCell ⟨b, 1, none⟩ (.int .i64 ((k1 : Int) + 1)) = gbe at *;have fr := Dr.f4;have fn := Dn.f4;have fR := R.f
       repeat go_step
       clear fr fn fR;obtain ⟨Dr, Dn, R, P, O, X1⟩ := (fun o0 o1 o2 o3 => And.intro (Dr.puts4 o0 o1 o2 o3) (And.intro (Dn.fars4 (w.heap.size) (by omega) o0 o1 o2 o3) (And.intro (R.fars4 (w.heap.size) (by omega) o0 o1 o2 o3) (And.intro (P.sets4 (w.heap.size) (by omega) o0 o1 o2 o3) (And.intro (O.sets4 (w.heap.size) (by omega) o0 o1 o2 o3) (X1.sets4 (w.heap.size) (by omega) o0 o1 o2 o3)))))) (.int .u8 99) (.bool false) (.slice (some ⟨ga, 0, none⟩) (n + 1) ca) (.slice none 0 0);generalize ((((gbe).setCell ⟨w.heap.size, 0, none⟩ (.int .u8 99)).setCell ⟨w.heap.size, 1, none⟩ (.bool false)).setCell ⟨w.heap.size, 2, none⟩ (.slice (some ⟨ga, 0, none⟩) (n + 1) ca)).setCell ⟨w.heap.size, 3, none⟩ (.slice none 0 0) = fbe at *;have fr := Dr.f4;have fn := Dn.f4;have fR := R.f;have hTe := set_end HT.out hf (range_one HS1.out h45) h93;have h127 : ∀ r ∈ rs ++ [(va, va)], r.2 ≤ 126 := fun q hq => by
        rcases List.mem_append.1 hq with h | h
        ·
         exact H126.out q h
        ·
         rw [List.mem_singleton.1 h]; simp; omega
       have hset := (O.is (by omega)).keep (S' := Rng w fbe) (w' := fbe) (fun g hg => ⟨by have := hg.1; omega, hg.2⟩) (fun _ _ => rfl);refine bodyPost_ret (v := ndV ⟨99, false, some ⟨ga, 0, none⟩, n + 1, ca, none, 0, 0⟩) (by simp [results, Tryz.results83, go_sem, fr]; try rfl) rfl ?_;rw [HR.out, hTe];exact ⟨⟨99, false, some ⟨ga, 0, none⟩, n + 1, ca, none, 0, 0⟩, _, _, _, _, _, rfl, R, P, rfl, rfl, rfl, 1, Or.inl ⟨_, rfl, hset, h127, rfl⟩⟩
      ·
       have hxb := pk_byteAt R.txt k1 (by omega);have hqlb : (k1 : Int) < (l.length : Int) := by omega
       have hqmb : (0 : Int) ≤ (k1 : Int) := by omega
       obtain ⟨xb, hxxb⟩ : ∃ x, Rx.pk l k1 = x := ⟨_, rfl⟩;rw [hxxb] at hxb;have d93b : ((xb : Int) == 93) = false := by rw [beq_eq_false_iff_ne]; omega
       have HXXb := Lib.hid hxxb;have d45 : ((xb : Int) == 45) = false := by rw [beq_eq_false_iff_ne]; omega
       clear hxxb;clear fn fR;have fn := Dn.f4;have fR := R.f;go_wp2_with fail
       go_quiet (fail)
       clear fn fR;have Dr := (Dr.drewN nq);have Dn := (Dn.drewN nq);have R := (R.drewN nq);have P := (P.drewN nq);have O := (O.drewN nq);have X1 := (X1.drewN nq);generalize (w1).drewN nq = xbm at *;have fn := Dn.f4;have fR := R.f;go_wp2_with (at_builtin; refine wpList_append_own_at _ rfl _ _ 52 rfl bs 147 i0 (.agg #[.int .u8 0, .int .u8 0]) 2 2 Tryz.underlying52 HI.out HZ.out HZ1.out HZ2.out rfl (by decide) _ _ _ rfl (O.own.alloc _) ⟨xbm.heap.size, 0, none⟩ 1 1 [.int .u8 (va : Int), .int .u8 (va : Int)] rfl rfl (rxcells2_new _ _ _ _) ?j1bm ?j2bm ?j3bm ?j4bm ?_)
       case j1bm => first | (intro u hu; simp at hu; rcases hu with rfl | rfl <;> rfl) | exact ⟨rfl, rfl⟩
       case j2bm => have h1 := O.len; unfold maxLen; omega
       case j3bm => have h1 := O.len; omega
       case j4bm => (try simp); have h1 := X1.le; omega
       intro v' w1bm hown hgrow _ hor;obtain ⟨ga, ca, rfl, hgabm, hgbbm⟩ := hown.form (by omega);clear fn fR;have Dr := grown_at hgrow (Dr.alloc (.cells #[.int .u8 (va : Int), .int .u8 (va : Int)] 147)) (fun e2 => by have h1 := (O.lt _ e2).1; omega);have Dn := grown_at hgrow (Dn.alloc (.cells #[.int .u8 (va : Int), .int .u8 (va : Int)] 147)) (fun e2 => by have h1 := (O.lt _ e2).1; omega);have X1 := (X1.alloc (.cells #[.int .u8 (va : Int), .int .u8 (va : Int)] 147)).grown hgrow (fun g e2 => by have h1 := O.lt _ e2; omega);have R := (R.alloc (.cells #[.int .u8 (va : Int), .int .u8 (va : Int)] 147)).grown hgrow (fun e2 => by have h1 := (O.lt _ e2).1; omega);have P := (P.alloc (.cells #[.int .u8 (va : Int), .int .u8 (va : Int)] 147)).grown hgrow (fun g e2 => by have h1 := (O.lt _ e2).1; omega);have O := O.snoc va va hown (by have h1 := O.hn; omega);clear hown hgrow hor;have fn := Dn.f4;have fR := R.f;go_wp2_with fail
       clear fn fR;have Dr := (Dr.far (b' := nb) (j := 2) (by omega) (.slice (some ⟨ga, 0, none⟩) (n + 1) ca));have Dn : At ((w1bm).setCell ⟨nb, 2, none⟩ (.slice (some ⟨ga, 0, none⟩) (n + 1) ca)) (nb) [.int .u8 99, .bool false, .slice (some ⟨ga, 0, none⟩) (n + 1) ca, .slice none 0 0] := (Dn.set 2 (.slice (some ⟨ga, 0, none⟩) (n + 1) ca));obtain ⟨R, P, O, X1⟩ := (fun o => And.intro (R.far (c := nb) 2 (by omega) o) (And.intro (P.setCell (p := ⟨nb, 2, none⟩) (.inl (by dsimp only; omega)) o) (And.intro (O.setCell (p := ⟨nb, 2, none⟩) (by dsimp only; omega) o) (X1.setCell (p := ⟨nb, 2, none⟩) (by dsimp only; omega) o)))) (.slice (some ⟨ga, 0, none⟩) (n + 1) ca);generalize (w1bm).setCell ⟨nb, 2, none⟩ (.slice (some ⟨ga, 0, none⟩) (n + 1) ca) = ybm at *;have fn := Dn.f4;have fR := R.f;go_quiet (fail)
       clear fn fR;have Dr := (Dr.drewN nq);have Dn := (Dn.drewN nq);have R := (R.drewN nq);have P := (P.drewN nq);have O := (O.drewN nq);have X1 := (X1.drewN nq);generalize (ybm).drewN nq = zbm at *;have fn := Dn.f4;have fR := R.f;go_wp2
       have hM2 : paM l b zbm = l.length - k1 + 1 := by rw [paM_at R, if_pos rfl]
       have hkl2 := R.kl;go_roundw
       case rel => exact ⟨_, _, _, _, _, _, _, _, _, set_more HT.out hf hkl (range_one HS1.out h45) (h93) H126.out (by have h1 := O.hn; omega), R, P, O, Dn, Dr, X1.le⟩
       case measure => rw [hM, hM2]; omega
     ·
      have hzb := Rx.pk_end (l := l) (k := k1) (by omega);have dqb : decide ((k1 : Int) < (l.length : Int)) = false := decide_eq_false (by omega);have HZb := Lib.hid hzb;clear hzb;clear fn fR;have fn := Dn.f4;have fR := R.f;go_wp2_with fail
      go_quiet (fail)
      clear fn fR;have Dr := (Dr.drewN nq);have Dn := (Dn.drewN nq);have R := (R.drewN nq);have P := (P.drewN nq);have O := (O.drewN nq);have X1 := (X1.drewN nq);generalize (w1).drewN nq = xbn at *;have fn := Dn.f4;have fR := R.f;go_wp2_with (at_builtin; refine wpList_append_own_at _ rfl _ _ 52 rfl bs 147 i0 (.agg #[.int .u8 0, .int .u8 0]) 2 2 Tryz.underlying52 HI.out HZ.out HZ1.out HZ2.out rfl (by decide) _ _ _ rfl (O.own.alloc _) ⟨xbn.heap.size, 0, none⟩ 1 1 [.int .u8 (va : Int), .int .u8 (va : Int)] rfl rfl (rxcells2_new _ _ _ _) ?j1bn ?j2bn ?j3bn ?j4bn ?_)
      case j1bn => first | (intro u hu; simp at hu; rcases hu with rfl | rfl <;> rfl) | exact ⟨rfl, rfl⟩
      case j2bn => have h1 := O.len; unfold maxLen; omega
      case j3bn => have h1 := O.len; omega
      case j4bn => (try simp); have h1 := X1.le; omega
      intro v' w1bn hown hgrow _ hor;obtain ⟨ga, ca, rfl, hgabn, hgbbn⟩ := hown.form (by omega);clear fn fR;have Dr := grown_at hgrow (Dr.alloc (.cells #[.int .u8 (va : Int), .int .u8 (va : Int)] 147)) (fun e2 => by have h1 := (O.lt _ e2).1; omega);have Dn := grown_at hgrow (Dn.alloc (.cells #[.int .u8 (va : Int), .int .u8 (va : Int)] 147)) (fun e2 => by have h1 := (O.lt _ e2).1; omega);have X1 := (X1.alloc (.cells #[.int .u8 (va : Int), .int .u8 (va : Int)] 147)).grown hgrow (fun g e2 => by have h1 := O.lt _ e2; omega);have R := (R.alloc (.cells #[.int .u8 (va : Int), .int .u8 (va : Int)] 147)).grown hgrow (fun e2 => by have h1 := (O.lt _ e2).1; omega);have P := (P.alloc (.cells #[.int .u8 (va : Int), .int .u8 (va : Int)] 147)).grown hgrow (fun g e2 => by have h1 := (O.lt _ e2).1; omega);have O := O.snoc va va hown (by have h1 := O.hn; omega);clear hown hgrow hor;have fn := Dn.f4;have fR := R.f;go_wp2_with fail
      clear fn fR;have Dr := (Dr.far (b' := nb) (j := 2) (by omega) (.slice (some ⟨ga, 0, none⟩) (n + 1) ca));have Dn : At ((w1bn).setCell ⟨nb, 2, none⟩ (.slice (some ⟨ga, 0, none⟩) (n + 1) ca)) (nb) [.int .u8 99, .bool false, .slice (some ⟨ga, 0, none⟩) (n + 1) ca, .slice none 0 0] := (Dn.set 2 (.slice (some ⟨ga, 0, none⟩) (n + 1) ca));obtain ⟨R, P, O, X1⟩ := (fun o => And.intro (R.far (c := nb) 2 (by omega) o) (And.intro (P.setCell (p := ⟨nb, 2, none⟩) (.inl (by dsimp only; omega)) o) (And.intro (O.setCell (p := ⟨nb, 2, none⟩) (by dsimp only; omega) o) (X1.setCell (p := ⟨nb, 2, none⟩) (by dsimp only; omega) o)))) (.slice (some ⟨ga, 0, none⟩) (n + 1) ca);generalize (w1bn).setCell ⟨nb, 2, none⟩ (.slice (some ⟨ga, 0, none⟩) (n + 1) ca) = ybn at *;have fn := Dn.f4;have fR := R.f;go_quiet (fail)
      clear fn fR;have Dr := (Dr.drewN nq);have Dn := (Dn.drewN nq);have R := (R.drewN nq);have P := (P.drewN nq);have O := (O.drewN nq);have X1 := (X1.drewN nq);generalize (ybn).drewN nq = zbn at *;have fn := Dn.f4;have fR := R.f;go_wp2
      have hM2 : paM l b zbn = l.length - k1 + 1 := by rw [paM_at R, if_pos rfl]
      have hkl2 := R.kl;go_roundw
      case rel => exact ⟨_, _, _, _, _, _, _, _, _, set_more HT.out hf hkl (range_one HS1.out h45) (by rw [HZb.out]; decide) H126.out (by have h1 := O.hn; omega), R, P, O, Dn, Dr, X1.le⟩
      case measure => rw [hM, hM2]; omega
  ·
   have hne2 : ((er : Int) == 0) = false := by rw [beq_eq_false_iff_ne]; omega
   have fr := Dr.f4;have fn := Dn.f4;have fR := R.f;go_upto_region 19 with (fail)
   repeat go_step
   clear fr fn fR;obtain ⟨Dr, Dn, R, P, O, X1⟩ := (fun o0 o1 o2 o3 => And.intro (Dr.puts4 o0 o1 o2 o3) (And.intro (Dn.fars4 (w.heap.size) (by omega) o0 o1 o2 o3) (And.intro (R.fars4 (w.heap.size) (by omega) o0 o1 o2 o3) (And.intro (P.sets4 (w.heap.size) (by omega) o0 o1 o2 o3) (And.intro (O.sets4 (w.heap.size) (by omega) o0 o1 o2 o3) (X1.sets4 (w.heap.size) (by omega) o0 o1 o2 o3)))))) (.int .u8 0) (.bool false) (.slice none 0 0) (.slice none 0 0);generalize ((((wr).setCell ⟨w.heap.size, 0, none⟩ (.int .u8 0)).setCell ⟨w.heap.size, 1, none⟩ (.bool false)).setCell ⟨w.heap.size, 2, none⟩ (.slice none 0 0)).setCell ⟨w.heap.size, 3, none⟩ (.slice none 0 0) = q9 at *;have fr := Dr.f4;have fn := Dn.f4;have fR := R.f;refine bodyPost_ret (v := ndV nd0) (by simp [results, Tryz.results83, go_sem, fr, nd0]; try rfl) rfl ?_;rw [HR.out, hT];exact ⟨nd0, _, _, _, _, _, rfl, R, P, rfl, rfl, hne⟩
end Go.Proofs.YthdoniefjmphaaaGreatDoor
namespace Go.Proofs.YthdoniefjmphaaaGreatDoor
open Go Go.Proofs Go.RowKit Go.Shelf
set_option maxRecDepth 100000
attribute [local go_sem] cell_set ndV
set_option maxHeartbeats 8000000 in
theorem set_T (b : Nat) (s : ByteArray) (l : List UInt8) (dz : Int) (k dp : Nat) (w : World) (R : Pa b s l (k : Int) dz 0 0 k dp w) (hk : k < l.length) (hlt : k + 1 < l.length) (hw : Rx.pk l (k + 1) = 94) (T : Rx.Res (List (Nat × Nat))) (hT : Rx.itemsF l (l.length + 1) (k + 2) [] = T) :
  Calls Tryz.prog 83 #[.pointer (some ⟨b, 0, none⟩)] w (NP b w s l dp (setRes true T)) := by
 obtain ⟨i0, hi, hz0, hz1, hz2⟩ := info_parts info_two;have HI := Lib.hid hi;have HZ := Lib.hid hz0;have HZ1 := Lib.hid hz1;have HZ2 := Lib.hid hz2;clear hi hz0 hz1 hz2;have hsz : s.size = l.length := by rw [Lib.size_eq, R.txt]
 have hl := R.ll;have P := Kq.refl b w;have hw0 := R.cells.lt;have hST : SetSt l T (k + 2) 0 0 [] := Or.inl ⟨rfl, rfl, by simp, by simp, _, hT, by omega⟩;have HST := Lib.hid hST;clear hT hST;have d1 : decide ((k : Int) + 1 < (l.length : Int)) = true := decide_eq_true (by omega);have h1 : (k : Int) + 1 < (l.length : Int) := by omega
 have h3 : (0 : Int) ≤ (k : Int) + 1 := by omega
 have hi : k + 1 < s.size := by omega
 have e1 : ((k : Int) + 1).toNat = k + 1 := by omega
 have hx := pk_byteAt R.txt (k + 1) hi;rw [hw] at hx;obtain ⟨r, hr⟩ : ∃ r : Rx.Res Rx.Pt, r = (setRes true T) := ⟨_, rfl⟩;rw [← hr];have HR := Lib.hid hr;clear hr;have fR := R.f;go_enter Tryz.func83, Tryz.ntmps83
 go_upto_region 2 with (fail)
 clear fR;have uR0 := R.cells.lt;have Dr := ((At.nwn (w.heap.size) (w) 0 false none 0 0 none 0 0).alloc (nC 99 false none 0 0 none 0 0))
 have Dn := (At.nwn (w.heap.size + 1) ((w).alloc (nC 0 false none 0 0 none 0 0)) 99 false none 0 0 none 0 0)
 have R := ((R.alloc (nC 0 false none 0 0 none 0 0)).alloc (nC 99 false none 0 0 none 0 0));have P := ((P.alloc (nC 0 false none 0 0 none 0 0)).alloc (nC 99 false none 0 0 none 0 0));generalize ((w).alloc (nC 0 false none 0 0 none 0 0)).alloc (nC 99 false none 0 0 none 0 0) = v00 at *;have hnr : w.heap.size < w.heap.size + 1 := Nat.lt_succ_self _;obtain ⟨nb, hnb⟩ : ∃ nb, nb = w.heap.size + 1 := ⟨_, rfl⟩;rw [← hnb] at Dn ⊢;have hrn : w.heap.size < nb := by omega
 clear hnb hnr;have fr := Dr.f4;have fn := Dn.f4;have fR := R.f;go_wp2_with fail
 clear fr fn fR;have Dr := (Dr.far (b' := b) (j := 1) (by omega) (.int .i64 ((k : Int) + 1)));have Dn := (Dn.far (b' := b) (j := 1) (by omega) (.int .i64 ((k : Int) + 1)));have R := (R.move (z' := (k : Int) + 1) (k' := k + 1) (by omega) (by omega));have P := (P.setCell (p := ⟨b, 1, none⟩) (.inr rfl) (.int .i64 ((k : Int) + 1)));generalize (v00).setCell ⟨b, 1, none⟩ (.int .i64 ((k : Int) + 1)) = v0 at *;obtain ⟨bs, hbs⟩ : ∃ bs, bs = v0.heap.size := ⟨_, rfl⟩;have hnbs : nb < bs := by have h := Dn.lt; omega
 have hbs2 : bs ≤ v0.heap.size := by omega
 clear hbs;have X0 : Kx (bs) (bs) v0 v0 := ⟨hbs2, fun _ _ _ => by omega⟩;have fr := Dr.f4;have fn := Dn.f4;have fR := R.f;go_quiet (fail)
 clear fr fn fR;have Dr := (Dr.drewN nq);have Dn := (Dn.drewN nq);have R := (R.drewN nq);have P := (P.drewN nq);have X0 := (X0.drewN nq);generalize (v0).drewN nq = v1 at *;have fr := Dr.f4;have fn := Dn.f4;have fR := R.f;go_wp2_with fail
 clear fr fn fR;have Dr := ((Dr.far (b' := nb) (j := 1) (by omega) (.bool true)).far (b' := b) (j := 1) (by omega) (.int .i64 ((k : Int) + 1 + 1)));have Dn : At (((v1).setCell ⟨nb, 1, none⟩ (.bool true)).setCell ⟨b, 1, none⟩ (.int .i64 ((k : Int) + 1 + 1))) (nb) [.int .u8 99, .bool true, .slice none 0 0, .slice none 0 0] := ((Dn.set 1 (.bool true)).far (b' := b) (j := 1) (by omega) (.int .i64 ((k : Int) + 1 + 1)));have R := ((R.far (c := nb) 1 (by omega) (.bool true)).move (z' := (k : Int) + 1 + 1) (k' := k + 2) (by omega) (by omega));have P := ((P.setCell (p := ⟨nb, 1, none⟩) (.inl (by dsimp only; omega)) (.bool true)).setCell (p := ⟨b, 1, none⟩) (.inr rfl) (.int .i64 ((k : Int) + 1 + 1)));have X0 := ((X0.setCell (p := ⟨nb, 1, none⟩) (by dsimp only; omega) (.bool true)).setCell (p := ⟨b, 1, none⟩) (by dsimp only; omega) (.int .i64 ((k : Int) + 1 + 1)));generalize ((v1).setCell ⟨nb, 1, none⟩ (.bool true)).setCell ⟨b, 1, none⟩ (.int .i64 ((k : Int) + 1 + 1)) = v2 at *;have fr := Dr.f4;have fn := Dn.f4;have fR := R.f;have O := Bts.nil v2 bs;go_loopw [4, 5, 6, 7, 8] (fun v4 v5 v6 v7 v8 wr => ∃ (rs : List (Nat × Nat)) (sa : Option Addr) (n sc : Nat) (z dz1 bad pos : Int) (k : Nat), SetSt l T k bad pos rs ∧ Pa b s l z dz1 bad pos k dp wr ∧ Kq b w wr ∧ Bts bs wr sa n sc rs ∧ At wr nb [.int .u8 99, .bool true, .slice sa n sc, .slice none 0 0] ∧ At wr w.heap.size [.int .u8 0, .bool false, .slice none 0 0, .slice none 0 0] ∧ bs ≤ wr.heap.size) (fun _ _ _ _ _ wr => paM l b wr)
 case atStart => exact ⟨[], none, 0, 0, _, _, _, _, _, HST.out, R, P, O, Dn, Dr, by have h := X0.le; omega⟩
 case round =>
  clear Dn Dr R P O HST;obtain ⟨rs, sa, n, sc, z, dz1, bad, pos, k0, hst, R, P, O, Dn, Dr, hble⟩ := hrel;have hkl := R.kl;have X1 : Kx (bs) (bs) wr wr := ⟨hble, fun _ _ _ => by omega⟩;rcases hst with ⟨rfl, rfl, h126, hrl, f, hT, hf⟩ | ⟨er, j, hT, rfl, rfl, hne⟩
  ·
   obtain rfl := R.hk;have hM : paM l b wr = l.length - k0 + 1 := by rw [paM_at R, if_pos rfl]
   have HT := Lib.hid hT;have H126 := Lib.hid h126;clear hT h126;have fn := Dn.f4;have fR := R.f;go_wp2_with fail
   clear fn fR;have ltr := Dr.lt;have ltn := Dn.lt;have ltR := R.cells.lt;refine (byte1_any b s l _ _ _ _ _ R).mono ?_;rintro e w1 ⟨va, z1, dz2, bad, pos, k1, rfl, R2, P2, hs1⟩;have Dr := Dr.kq P2 (by omega);have Dn := Dn.kq P2 (by omega);have X1 := X1.kq P2 (by omega);have O := O.kq P2 (by omega);have P := P.trans P2;have P3 := P2;have R := R2;clear R2 P2;clear ltR ltr ltn;have fn := Dn.f4;have fR := R.f;clear P3;cases hS1 : Rx.singleF Rx.inL l k0 with
   | bad er j =>
    rw [hS1] at hs1;obtain ⟨rfl, rfl, hne⟩ := hs1;have hTb := set_bad HT.out hf (range_bad hS1);have hne2 : ((er : Int) == 0) = false := by rw [beq_eq_false_iff_ne]; omega
    clear hS1;go_wp2_with fail
    go_quiet (fail)
    clear fn fR;have Dr := (Dr.drewN nq);have Dn := (Dn.drewN nq);have R := (R.drewN nq);have P := (P.drewN nq);have O := (O.drewN nq);have X1 := (X1.drewN nq);generalize (w1).drewN nq = x1 at *;have fn := Dn.f4;have fR := R.f;go_wp2_with (at_builtin; refine wpList_append_own_at _ rfl _ _ 52 rfl bs 147 i0 (.agg #[.int .u8 0, .int .u8 0]) 2 2 Tryz.underlying52 HI.out HZ.out HZ1.out HZ2.out rfl (by decide) _ _ _ rfl (O.own.alloc _) ⟨x1.heap.size, 0, none⟩ 1 1 [.int .u8 (va : Int), .int .u8 (va : Int)] rfl rfl (rxcells2_new _ _ _ _) ?j1a ?j2a ?j3a ?j4a ?_)
    case j1a => first | (intro u hu; simp at hu; rcases hu with rfl | rfl <;> rfl) | exact ⟨rfl, rfl⟩
    case j2a => have h1 := O.len; unfold maxLen; omega
    case j3a => have h1 := O.len; omega
    case j4a => (try simp); have h1 := X1.le; omega
    intro v' w1a hown hgrow _ hor;obtain ⟨ga, ca, rfl, hgaa, hgba⟩ := hown.form (by omega);clear fn fR;have Dr := grown_at hgrow (Dr.alloc (.cells #[.int .u8 (va : Int), .int .u8 (va : Int)] 147)) (fun e2 => by have h1 := (O.lt _ e2).1; omega);have Dn := grown_at hgrow (Dn.alloc (.cells #[.int .u8 (va : Int), .int .u8 (va : Int)] 147)) (fun e2 => by have h1 := (O.lt _ e2).1; omega);have X1 := (X1.alloc (.cells #[.int .u8 (va : Int), .int .u8 (va : Int)] 147)).grown hgrow (fun g e2 => by have h1 := O.lt _ e2; omega);have R := (R.alloc (.cells #[.int .u8 (va : Int), .int .u8 (va : Int)] 147)).grown hgrow (fun e2 => by have h1 := (O.lt _ e2).1; omega);have P := (P.alloc (.cells #[.int .u8 (va : Int), .int .u8 (va : Int)] 147)).grown hgrow (fun g e2 => by have h1 := (O.lt _ e2).1; omega);have O := O.snoc va va hown (by have h1 := O.hn; omega);clear hown hgrow hor;have fn := Dn.f4;have fR := R.f;go_wp2_with fail
    clear fn fR;have Dr := (Dr.far (b' := nb) (j := 2) (by omega) (.slice (some ⟨ga, 0, none⟩) (n + 1) ca));have Dn : At ((w1a).setCell ⟨nb, 2, none⟩ (.slice (some ⟨ga, 0, none⟩) (n + 1) ca)) (nb) [.int .u8 99, .bool true, .slice (some ⟨ga, 0, none⟩) (n + 1) ca, .slice none 0 0] := (Dn.set 2 (.slice (some ⟨ga, 0, none⟩) (n + 1) ca));obtain ⟨R, P, O, X1⟩ := (fun o => And.intro (R.far (c := nb) 2 (by omega) o) (And.intro (P.setCell (p := ⟨nb, 2, none⟩) (.inl (by dsimp only; omega)) o) (And.intro (O.setCell (p := ⟨nb, 2, none⟩) (by dsimp only; omega) o) (X1.setCell (p := ⟨nb, 2, none⟩) (by dsimp only; omega) o)))) (.slice (some ⟨ga, 0, none⟩) (n + 1) ca);generalize (w1a).setCell ⟨nb, 2, none⟩ (.slice (some ⟨ga, 0, none⟩) (n + 1) ca) = x2 at *;have fn := Dn.f4;have fR := R.f;go_quiet (fail)
    clear fn fR;have Dr := (Dr.drewN nq);have Dn := (Dn.drewN nq);have R := (R.drewN nq);have P := (P.drewN nq);have O := (O.drewN nq);have X1 := (X1.drewN nq);generalize (x2).drewN nq = x3 at *;have fn := Dn.f4;have fR := R.f;go_wp2
    have hM2 : paM l b x3 = 0 := by rw [paM_at R, if_neg (by omega)]
    have hkl2 := R.kl;go_roundw
    case rel => exact ⟨_, _, _, _, _, _, _, _, _, Or.inr ⟨er, j, hTb, rfl, rfl, hne⟩, R, P, O, Dn, Dr, X1.le⟩
    case measure => rw [hM, hM2]; omega
   | ok c j =>
    rw [hS1] at hs1;obtain ⟨rfl, rfl, rfl, rfl⟩ := hs1;obtain rfl := R.hk;have hg := Rx.single_goes Rx.inL hkl;rw [hS1] at hg;obtain ⟨hg1, hg2, hg3, hg4⟩ := hg;have HS1 := Lib.hid hS1;clear hS1;by_cases h45 : Rx.pk l k1 = 45
    ·
     have hlt1 : k1 < l.length := Rx.pk_lt (by omega);have hxs := pk_byteAt R.txt k1 (by omega);rw [h45] at hxs;have hqls : (k1 : Int) < (l.length : Int) := by omega
     have hqms : (0 : Int) ≤ (k1 : Int) := by omega
     have his : k1 < s.size := by omega
     have H45 := Lib.hid h45;clear h45;clear fn fR;have fn := Dn.f4;have fR := R.f;go_wp2_with fail
     go_quiet (fail)
     clear fn fR;have Dr := (Dr.drewN nq);have Dn := (Dn.drewN nq);have R := (R.drewN nq);have P := (P.drewN nq);have O := (O.drewN nq);have X1 := (X1.drewN nq);generalize (w1).drewN nq = s1 at *;have fn := Dn.f4;have fR := R.f;go_wp2_with fail
     clear fn fR;have Dr := (Dr.far (b' := b) (j := 1) (by omega) (.int .i64 ((k1 : Int) + 1)));have Dn := (Dn.far (b' := b) (j := 1) (by omega) (.int .i64 ((k1 : Int) + 1)));have R := (R.move (z' := (k1 : Int) + 1) (k' := k1 + 1) (by omega) (by omega));have P := (P.setCell (p := ⟨b, 1, none⟩) (.inr rfl) (.int .i64 ((k1 : Int) + 1)));have O := (O.setCell (p := ⟨b, 1, none⟩) (by dsimp only; omega) (.int .i64 ((k1 : Int) + 1)));have X1 := (X1.setCell (p := ⟨b, 1, none⟩) (by dsimp only; omega) (.int .i64 ((k1 : Int) + 1)));generalize (s1).setCell ⟨b, 1, none⟩ (.int .i64 ((k1 : Int) + 1)) = s2 at *;have fn := Dn.f4;have fR := R.f;clear fn fR;have ltr := Dr.lt;have ltn := Dn.lt;have ltR := R.cells.lt;refine (byte1_any b s l _ _ _ _ _ R).mono ?_;rintro e w2 ⟨vb, z3, dz3, bad, pos, k2, rfl, R2, P2, hs2⟩;have Dr := Dr.kq P2 (by omega);have Dn := Dn.kq P2 (by omega);have X1 := X1.kq P2 (by omega);have O := O.kq P2 (by omega);have P := P.trans P2;have P3 := P2;have R := R2;clear R2 P2;clear ltR ltr ltn;have fn := Dn.f4;have fR := R.f;clear P3;cases hS2 : Rx.singleF Rx.inL l (k1 + 1) with
     | bad er j =>
      rw [hS2] at hs2;obtain ⟨rfl, rfl, hne⟩ := hs2;have hTb := set_bad HT.out hf (range_bad2 HS1.out H45.out hS2);have hne2 : ((er : Int) == 0) = false := by rw [beq_eq_false_iff_ne]; omega
      clear hS2;go_wp2_with (at_builtin; refine wpList_append_own_at _ rfl _ _ 52 rfl bs 147 i0 (.agg #[.int .u8 0, .int .u8 0]) 2 2 Tryz.underlying52 HI.out HZ.out HZ1.out HZ2.out rfl (by decide) _ _ _ rfl (O.own.alloc _) ⟨w2.heap.size, 0, none⟩ 1 1 [.int .u8 (va : Int), .int .u8 (vb : Int)] rfl rfl (rxcells2_new _ _ _ _) ?j1c ?j2c ?j3c ?j4c ?_)
      case j1c => first | (intro u hu; simp at hu; rcases hu with rfl | rfl <;> rfl) | exact ⟨rfl, rfl⟩
      case j2c => have h1 := O.len; unfold maxLen; omega
      case j3c => have h1 := O.len; omega
      case j4c => (try simp); have h1 := X1.le; omega
      intro v' w1c hown hgrow _ hor;obtain ⟨ga, ca, rfl, hgac, hgbc⟩ := hown.form (by omega);clear fn fR;have Dr := grown_at hgrow (Dr.alloc (.cells #[.int .u8 (va : Int), .int .u8 (vb : Int)] 147)) (fun e2 => by have h1 := (O.lt _ e2).1; omega);have Dn := grown_at hgrow (Dn.alloc (.cells #[.int .u8 (va : Int), .int .u8 (vb : Int)] 147)) (fun e2 => by have h1 := (O.lt _ e2).1; omega);have X1 := (X1.alloc (.cells #[.int .u8 (va : Int), .int .u8 (vb : Int)] 147)).grown hgrow (fun g e2 => by have h1 := O.lt _ e2; omega);have R := (R.alloc (.cells #[.int .u8 (va : Int), .int .u8 (vb : Int)] 147)).grown hgrow (fun e2 => by have h1 := (O.lt _ e2).1; omega);have P := (P.alloc (.cells #[.int .u8 (va : Int), .int .u8 (vb : Int)] 147)).grown hgrow (fun g e2 => by have h1 := (O.lt _ e2).1; omega);have O := O.snoc va vb hown (by have h1 := O.hn; omega);clear hown hgrow hor;have fn := Dn.f4;have fR := R.f;go_wp2_with fail
      clear fn fR;have Dr := (Dr.far (b' := nb) (j := 2) (by omega) (.slice (some ⟨ga, 0, none⟩) (n + 1) ca));have Dn : At ((w1c).setCell ⟨nb, 2, none⟩ (.slice (some ⟨ga, 0, none⟩) (n + 1) ca)) (nb) [.int .u8 99, .bool true, .slice (some ⟨ga, 0, none⟩) (n + 1) ca, .slice none 0 0] := (Dn.set 2 (.slice (some ⟨ga, 0, none⟩) (n + 1) ca));obtain ⟨R, P, O, X1⟩ := (fun o => And.intro (R.far (c := nb) 2 (by omega) o) (And.intro (P.setCell (p := ⟨nb, 2, none⟩) (.inl (by dsimp only; omega)) o) (And.intro (O.setCell (p := ⟨nb, 2, none⟩) (by dsimp only; omega) o) (X1.setCell (p := ⟨nb, 2, none⟩) (by dsimp only; omega) o)))) (.slice (some ⟨ga, 0, none⟩) (n + 1) ca);generalize (w1c).setCell ⟨nb, 2, none⟩ (.slice (some ⟨ga, 0, none⟩) (n + 1) ca) = yc at *;have fn := Dn.f4;have fR := R.f;go_quiet (fail)
      clear fn fR;have Dr := (Dr.drewN nq);have Dn := (Dn.drewN nq);have R := (R.drewN nq);have P := (P.drewN nq);have O := (O.drewN nq);have X1 := (X1.drewN nq);generalize (yc).drewN nq = zc at *;have fn := Dn.f4;have fR := R.f;go_wp2
      have hM2 : paM l b zc = 0 := by rw [paM_at R, if_neg (by omega)]
      have hkl2 := R.kl;go_roundw
      case rel => exact ⟨_, _, _, _, _, _, _, _, _, Or.inr ⟨er, j, hTb, rfl, rfl, hne⟩, R, P, O, Dn, Dr, X1.le⟩
      case measure => rw [hM, hM2]; omega
     | ok c j =>
      rw [hS2] at hs2;obtain ⟨rfl, rfl, rfl, rfl⟩ := hs2;obtain rfl := R.hk;have hg := Rx.single_goes Rx.inL (l := l) (k := k1 + 1) (by omega);rw [hS2] at hg;obtain ⟨hg5, hg6, hg7, hg8⟩ := hg;have HS2 := Lib.hid hS2;clear hS2;by_cases hfall : vb < va
      ·
       have df : decide ((vb : Int) < (va : Int)) = true := decide_eq_true (by omega);have df2 : decide (vb < va) = true := decide_eq_true hfall;have hTb := set_bad HT.out hf (range_fall HS1.out H45.out HS2.out hfall);clear hfall;go_wp2_with fail
       clear fn fR;have ltr := Dr.lt;have ltn := Dn.lt;have ltR := R.cells.lt;refine (pfail_any b s l _ _ _ _ _ _ _ _ R).mono ?_;rintro e w3 ⟨rfl, R2, P2⟩;have Dr := Dr.kq P2 (by omega);have Dn := Dn.kq P2 (by omega);have X1 := X1.kq P2 (by omega);have O := O.kq P2 (by omega);have P := P.trans P2;have P3 := P2;have R := R2;clear R2 P2;clear ltR ltr ltn;have fn := Dn.f4;have fR := R.f;go_wp2_with (at_builtin; refine wpList_append_own_at _ rfl _ _ 52 rfl bs 147 i0 (.agg #[.int .u8 0, .int .u8 0]) 2 2 Tryz.underlying52 HI.out HZ.out HZ1.out HZ2.out rfl (by decide) _ _ _ rfl (O.own.alloc _) ⟨w3.heap.size, 0, none⟩ 1 1 [.int .u8 (va : Int), .int .u8 (vb : Int)] rfl rfl (rxcells2_new _ _ _ _) ?j1d ?j2d ?j3d ?j4d ?_)
       case j1d => first | (intro u hu; simp at hu; rcases hu with rfl | rfl <;> rfl) | exact ⟨rfl, rfl⟩
       case j2d => have h1 := O.len; unfold maxLen; omega
       case j3d => have h1 := O.len; omega
       case j4d => (try simp); have h1 := X1.le; omega
       intro v' w1d hown hgrow _ hor;obtain ⟨ga, ca, rfl, hgad, hgbd⟩ := hown.form (by omega);clear fn fR;have Dr := grown_at hgrow (Dr.alloc (.cells #[.int .u8 (va : Int), .int .u8 (vb : Int)] 147)) (fun e2 => by have h1 := (O.lt _ e2).1; omega);have Dn := grown_at hgrow (Dn.alloc (.cells #[.int .u8 (va : Int), .int .u8 (vb : Int)] 147)) (fun e2 => by have h1 := (O.lt _ e2).1; omega);have X1 := (X1.alloc (.cells #[.int .u8 (va : Int), .int .u8 (vb : Int)] 147)).grown hgrow (fun g e2 => by have h1 := O.lt _ e2; omega);have R := (R.alloc (.cells #[.int .u8 (va : Int), .int .u8 (vb : Int)] 147)).grown hgrow (fun e2 => by have h1 := (O.lt _ e2).1; omega);have P := (P.alloc (.cells #[.int .u8 (va : Int), .int .u8 (vb : Int)] 147)).grown hgrow (fun g e2 => by have h1 := (O.lt _ e2).1; omega);have O := O.snoc va vb hown (by have h1 := O.hn; omega);clear hown hgrow hor;have fn := Dn.f4;have fR := R.f;go_wp2_with fail
       clear fn fR;have Dr := (Dr.far (b' := nb) (j := 2) (by omega) (.slice (some ⟨ga, 0, none⟩) (n + 1) ca));have Dn : At ((w1d).setCell ⟨nb, 2, none⟩ (.slice (some ⟨ga, 0, none⟩) (n + 1) ca)) (nb) [.int .u8 99, .bool true, .slice (some ⟨ga, 0, none⟩) (n + 1) ca, .slice none 0 0] := (Dn.set 2 (.slice (some ⟨ga, 0, none⟩) (n + 1) ca));obtain ⟨R, P, O, X1⟩ := (fun o => And.intro (R.far (c := nb) 2 (by omega) o) (And.intro (P.setCell (p := ⟨nb, 2, none⟩) (.inl (by dsimp only; omega)) o) (And.intro (O.setCell (p := ⟨nb, 2, none⟩) (by dsimp only; omega) o) (X1.setCell (p := ⟨nb, 2, none⟩) (by dsimp only; omega) o)))) (.slice (some ⟨ga, 0, none⟩) (n + 1) ca);generalize (w1d).setCell ⟨nb, 2, none⟩ (.slice (some ⟨ga, 0, none⟩) (n + 1) ca) = yd at *;have fn := Dn.f4;have fR := R.f;go_quiet (fail)
       clear fn fR;have Dr := (Dr.drewN nq);have Dn := (Dn.drewN nq);have R := (R.drewN nq);have P := (P.drewN nq);have O := (O.drewN nq);have X1 := (X1.drewN nq);generalize (yd).drewN nq = zd at *;have fn := Dn.f4;have fR := R.f;go_wp2
       have hM2 : paM l b zd = 0 := by rw [paM_at R, if_neg (by omega)]
       have hkl2 := R.kl;go_roundw
       case rel => exact ⟨_, _, _, _, _, _, _, _, _, Or.inr ⟨2, k1 + 1, hTb, rfl, rfl, by decide⟩, R, P, O, Dn, Dr, X1.le⟩
       case measure => rw [hM, hM2]; omega
      ·
       have df : decide ((vb : Int) < (va : Int)) = false := decide_eq_false (by omega);have df2 : decide (vb < va) = false := decide_eq_false hfall;have HF := Lib.hid hfall;clear hfall;by_cases hqg : k2 < l.length
       ·
        by_cases h93 : Rx.pk l k2 = 93
        ·
         have hxg := pk_byteAt R.txt k2 (by omega);rw [h93] at hxg;have hqlg : (k2 : Int) < (l.length : Int) := by omega
         have hqmg : (0 : Int) ≤ (k2 : Int) := by omega
         go_wp2_with (at_builtin; refine wpList_append_own_at _ rfl _ _ 52 rfl bs 147 i0 (.agg #[.int .u8 0, .int .u8 0]) 2 2 Tryz.underlying52 HI.out HZ.out HZ1.out HZ2.out rfl (by decide) _ _ _ rfl (O.own.alloc _) ⟨w2.heap.size, 0, none⟩ 1 1 [.int .u8 (va : Int), .int .u8 (vb : Int)] rfl rfl (rxcells2_new _ _ _ _) ?j1ge ?j2ge ?j3ge ?j4ge ?_)
         case j1ge => first | (intro u hu; simp at hu; rcases hu with rfl | rfl <;> rfl) | exact ⟨rfl, rfl⟩
         case j2ge => have h1 := O.len; unfold maxLen; omega
         case j3ge => have h1 := O.len; omega
         case j4ge => (try simp); have h1 := X1.le; omega
         intro v' w1ge hown hgrow _ hor;obtain ⟨ga, ca, rfl, hgage, hgbge⟩ := hown.form (by omega);clear fn fR;have Dr := grown_at hgrow (Dr.alloc (.cells #[.int .u8 (va : Int), .int .u8 (vb : Int)] 147)) (fun e2 => by have h1 := (O.lt _ e2).1; omega);have Dn := grown_at hgrow (Dn.alloc (.cells #[.int .u8 (va : Int), .int .u8 (vb : Int)] 147)) (fun e2 => by have h1 := (O.lt _ e2).1; omega);have X1 := (X1.alloc (.cells #[.int .u8 (va : Int), .int .u8 (vb : Int)] 147)).grown hgrow (fun g e2 => by have h1 := O.lt _ e2; omega);have R := (R.alloc (.cells #[.int .u8 (va : Int), .int .u8 (vb : Int)] 147)).grown hgrow (fun e2 => by have h1 := (O.lt _ e2).1; omega);have P := (P.alloc (.cells #[.int .u8 (va : Int), .int .u8 (vb : Int)] 147)).grown hgrow (fun g e2 => by have h1 := (O.lt _ e2).1; omega);have O := O.snoc va vb hown (by have h1 := O.hn; omega);clear hown hgrow hor;have fn := Dn.f4;have fR := R.f;go_wp2_with fail
         clear fn fR;have Dr := (Dr.far (b' := nb) (j := 2) (by omega) (.slice (some ⟨ga, 0, none⟩) (n + 1) ca));have Dn : At ((w1ge).setCell ⟨nb, 2, none⟩ (.slice (some ⟨ga, 0, none⟩) (n + 1) ca)) (nb) [.int .u8 99, .bool true, .slice (some ⟨ga, 0, none⟩) (n + 1) ca, .slice none 0 0] := (Dn.set 2 (.slice (some ⟨ga, 0, none⟩) (n + 1) ca));obtain ⟨R, P, O, X1⟩ := (fun o => And.intro (R.far (c := nb) 2 (by omega) o) (And.intro (P.setCell (p := ⟨nb, 2, none⟩) (.inl (by dsimp only; omega)) o) (And.intro (O.setCell (p := ⟨nb, 2, none⟩) (by dsimp only; omega) o) (X1.setCell (p := ⟨nb, 2, none⟩) (by dsimp only; omega) o)))) (.slice (some ⟨ga, 0, none⟩) (n + 1) ca);generalize (w1ge).setCell ⟨nb, 2, none⟩ (.slice (some ⟨ga, 0, none⟩) (n + 1) ca) = yge at *;have fn := Dn.f4;have fR := R.f;go_quiet (fail)
         clear fn fR;have Dr := (Dr.drewN nq);have Dn := (Dn.drewN nq);have R := (R.drewN nq);have P := (P.drewN nq);have O := (O.drewN nq);have X1 := (X1.drewN nq);generalize (yge).drewN nq = zge at *;have fr := Dr.f4;have fn := Dn.f4;have fR := R.f;go_upto_region 18 with (fail)
         clear fr fn fR;have Dr := (Dr.far (b' := b) (j := 1) (by omega) (.int .i64 ((k2 : Int) + 1)));have Dn := (Dn.far (b' := b) (j := 1) (by omega) (.int .i64 ((k2 : Int) + 1)));have R := (R.move (z' := (k2 : Int) + 1) (k' := k2 + 1) (by omega) (by omega));have P := (P.setCell (p := ⟨b, 1, none⟩) (.inr rfl) (.int .i64 ((k2 : Int) + 1)));have O := (O.setCell (p := ⟨b, 1, none⟩) (by dsimp only; omega) (.int .i64 ((k2 : Int) + 1)));have X1 := (X1.setCell (p := ⟨b, 1, none⟩) (by dsimp only; omega) (.int .i64 ((k2 : Int) + 1)));generalize (zge).setCell ⟨b, 1, none⟩ (.int .i64 ((k2 : Int) + 1)) = gge at *;have fr := Dr.f4;have fn := Dn.f4;have fR := R.f
         repeat go_step
         clear fr fn fR;obtain ⟨Dr, Dn, R, P, O, X1⟩ := (fun o0 o1 o2 o3 => And.intro (Dr.puts4 o0 o1 o2 o3) (And.intro (Dn.fars4 (w.heap.size) (by omega) o0 o1 o2 o3) (And.intro (R.fars4 (w.heap.size) (by omega) o0 o1 o2 o3) (And.intro (P.sets4 (w.heap.size) (by omega) o0 o1 o2 o3) (And.intro (O.sets4 (w.heap.size) (by omega) o0 o1 o2 o3) (X1.sets4 (w.heap.size) (by omega) o0 o1 o2 o3)))))) (.int .u8 99) (.bool true) (.slice (some ⟨ga, 0, none⟩) (n + 1) ca) (.slice none 0 0);generalize ((((gge).setCell ⟨w.heap.size, 0, none⟩ (.int .u8 99)).setCell ⟨w.heap.size, 1, none⟩ (.bool true)).setCell ⟨w.heap.size, 2, none⟩ (.slice (some ⟨ga, 0, none⟩) (n + 1) ca)).setCell ⟨w.heap.size, 3, none⟩ (.slice none 0 0) = fge at *;have fr := Dr.f4;have fn := Dn.f4;have fR := R.f;have hTe := set_end HT.out hf (range_two HS1.out H45.out HS2.out HF.out) h93;have h127 : ∀ r ∈ rs ++ [(va, vb)], r.2 ≤ 126 := fun q hq => by
          rcases List.mem_append.1 hq with h | h
          ·
           exact H126.out q h
          ·
           rw [List.mem_singleton.1 h]; simp; omega
         have hset := (O.is (by omega)).keep (S' := Rng w fge) (w' := fge) (fun g hg => ⟨by have := hg.1; omega, hg.2⟩) (fun _ _ => rfl);refine bodyPost_ret (v := ndV ⟨99, true, some ⟨ga, 0, none⟩, n + 1, ca, none, 0, 0⟩) (by simp [results, Tryz.results83, go_sem, fr]; try rfl) rfl ?_;rw [HR.out, hTe];exact ⟨⟨99, true, some ⟨ga, 0, none⟩, n + 1, ca, none, 0, 0⟩, _, _, _, _, _, rfl, R, P, rfl, rfl, rfl, 1, Or.inl ⟨_, rfl, hset, h127, rfl⟩⟩
        ·
         have hxg := pk_byteAt R.txt k2 (by omega);have hqlg : (k2 : Int) < (l.length : Int) := by omega
         have hqmg : (0 : Int) ≤ (k2 : Int) := by omega
         obtain ⟨xg, hxxg⟩ : ∃ x, Rx.pk l k2 = x := ⟨_, rfl⟩;rw [hxxg] at hxg;have d93g : ((xg : Int) == 93) = false := by rw [beq_eq_false_iff_ne]; omega
         have HXXg := Lib.hid hxxg;clear hxxg;go_wp2_with (at_builtin; refine wpList_append_own_at _ rfl _ _ 52 rfl bs 147 i0 (.agg #[.int .u8 0, .int .u8 0]) 2 2 Tryz.underlying52 HI.out HZ.out HZ1.out HZ2.out rfl (by decide) _ _ _ rfl (O.own.alloc _) ⟨w2.heap.size, 0, none⟩ 1 1 [.int .u8 (va : Int), .int .u8 (vb : Int)] rfl rfl (rxcells2_new _ _ _ _) ?j1gm ?j2gm ?j3gm ?j4gm ?_)
         case j1gm => first | (intro u hu; simp at hu; rcases hu with rfl | rfl <;> rfl) | exact ⟨rfl, rfl⟩
         case j2gm => have h1 := O.len; unfold maxLen; omega
         case j3gm => have h1 := O.len; omega
         case j4gm => (try simp); have h1 := X1.le; omega
         intro v' w1gm hown hgrow _ hor;obtain ⟨ga, ca, rfl, hgagm, hgbgm⟩ := hown.form (by omega);clear fn fR;have Dr := grown_at hgrow (Dr.alloc (.cells #[.int .u8 (va : Int), .int .u8 (vb : Int)] 147)) (fun e2 => by have h1 := (O.lt _ e2).1; omega);have Dn := grown_at hgrow (Dn.alloc (.cells #[.int .u8 (va : Int), .int .u8 (vb : Int)] 147)) (fun e2 => by have h1 := (O.lt _ e2).1; omega);have X1 := (X1.alloc (.cells #[.int .u8 (va : Int), .int .u8 (vb : Int)] 147)).grown hgrow (fun g e2 => by have h1 := O.lt _ e2; omega);have R := (R.alloc (.cells #[.int .u8 (va : Int), .int .u8 (vb : Int)] 147)).grown hgrow (fun e2 => by have h1 := (O.lt _ e2).1; omega);have P := (P.alloc (.cells #[.int .u8 (va : Int), .int .u8 (vb : Int)] 147)).grown hgrow (fun g e2 => by have h1 := (O.lt _ e2).1; omega);have O := O.snoc va vb hown (by have h1 := O.hn; omega);clear hown hgrow hor;have fn := Dn.f4;have fR := R.f;go_wp2_with fail
         clear fn fR;have Dr := (Dr.far (b' := nb) (j := 2) (by omega) (.slice (some ⟨ga, 0, none⟩) (n + 1) ca));have Dn : At ((w1gm).setCell ⟨nb, 2, none⟩ (.slice (some ⟨ga, 0, none⟩) (n + 1) ca)) (nb) [.int .u8 99, .bool true, .slice (some ⟨ga, 0, none⟩) (n + 1) ca, .slice none 0 0] := (Dn.set 2 (.slice (some ⟨ga, 0, none⟩) (n + 1) ca));obtain ⟨R, P, O, X1⟩ := (fun o => And.intro (R.far (c := nb) 2 (by omega) o) (And.intro (P.setCell (p := ⟨nb, 2, none⟩) (.inl (by dsimp only; omega)) o) (And.intro (O.setCell (p := ⟨nb, 2, none⟩) (by dsimp only; omega) o) (X1.setCell (p := ⟨nb, 2, none⟩) (by dsimp only; omega) o)))) (.slice (some ⟨ga, 0, none⟩) (n + 1) ca);generalize (w1gm).setCell ⟨nb, 2, none⟩ (.slice (some ⟨ga, 0, none⟩) (n + 1) ca) = ygm at *;have fn := Dn.f4;have fR := R.f;go_quiet (fail)
         clear fn fR;have Dr := (Dr.drewN nq);have Dn := (Dn.drewN nq);have R := (R.drewN nq);have P := (P.drewN nq);have O := (O.drewN nq);have X1 := (X1.drewN nq);generalize (ygm).drewN nq = zgm at *;have fn := Dn.f4;have fR := R.f;go_wp2
         have hM2 : paM l b zgm = l.length - k2 + 1 := by rw [paM_at R, if_pos rfl]
         have hkl2 := R.kl;go_roundw
         case rel => exact ⟨_, _, _, _, _, _, _, _, _, set_more HT.out hf hkl (range_two HS1.out H45.out HS2.out HF.out) (h93) H126.out (by have h1 := O.hn; omega), R, P, O, Dn, Dr, X1.le⟩
         case measure => rw [hM, hM2]; omega
       ·
        have hzg := Rx.pk_end (l := l) (k := k2) (by omega);have dqg : decide ((k2 : Int) < (l.length : Int)) = false := decide_eq_false (by omega);have HZg := Lib.hid hzg;clear hzg;go_wp2_with (at_builtin; refine wpList_append_own_at _ rfl _ _ 52 rfl bs 147 i0 (.agg #[.int .u8 0, .int .u8 0]) 2 2 Tryz.underlying52 HI.out HZ.out HZ1.out HZ2.out rfl (by decide) _ _ _ rfl (O.own.alloc _) ⟨w2.heap.size, 0, none⟩ 1 1 [.int .u8 (va : Int), .int .u8 (vb : Int)] rfl rfl (rxcells2_new _ _ _ _) ?j1gn ?j2gn ?j3gn ?j4gn ?_)
        case j1gn => first | (intro u hu; simp at hu; rcases hu with rfl | rfl <;> rfl) | exact ⟨rfl, rfl⟩
        case j2gn => have h1 := O.len; unfold maxLen; omega
        case j3gn => have h1 := O.len; omega
        case j4gn => (try simp); have h1 := X1.le; omega
        intro v' w1gn hown hgrow _ hor;obtain ⟨ga, ca, rfl, hgagn, hgbgn⟩ := hown.form (by omega);clear fn fR;have Dr := grown_at hgrow (Dr.alloc (.cells #[.int .u8 (va : Int), .int .u8 (vb : Int)] 147)) (fun e2 => by have h1 := (O.lt _ e2).1; omega);have Dn := grown_at hgrow (Dn.alloc (.cells #[.int .u8 (va : Int), .int .u8 (vb : Int)] 147)) (fun e2 => by have h1 := (O.lt _ e2).1; omega);have X1 := (X1.alloc (.cells #[.int .u8 (va : Int), .int .u8 (vb : Int)] 147)).grown hgrow (fun g e2 => by have h1 := O.lt _ e2; omega);have R := (R.alloc (.cells #[.int .u8 (va : Int), .int .u8 (vb : Int)] 147)).grown hgrow (fun e2 => by have h1 := (O.lt _ e2).1; omega);have P := (P.alloc (.cells #[.int .u8 (va : Int), .int .u8 (vb : Int)] 147)).grown hgrow (fun g e2 => by have h1 := (O.lt _ e2).1; omega);have O := O.snoc va vb hown (by have h1 := O.hn; omega);clear hown hgrow hor;have fn := Dn.f4;have fR := R.f;go_wp2_with fail
        clear fn fR;have Dr := (Dr.far (b' := nb) (j := 2) (by omega) (.slice (some ⟨ga, 0, none⟩) (n + 1) ca));have Dn : At ((w1gn).setCell ⟨nb, 2, none⟩ (.slice (some ⟨ga, 0, none⟩) (n + 1) ca)) (nb) [.int .u8 99, .bool true, .slice (some ⟨ga, 0, none⟩) (n + 1) ca, .slice none 0 0] := (Dn.set 2 (.slice (some ⟨ga, 0, none⟩) (n + 1) ca));obtain ⟨R, P, O, X1⟩ := (fun o => And.intro (R.far (c := nb) 2 (by omega) o) (And.intro (P.setCell (p := ⟨nb, 2, none⟩) (.inl (by dsimp only; omega)) o) (And.intro (O.setCell (p := ⟨nb, 2, none⟩) (by dsimp only; omega) o) (X1.setCell (p := ⟨nb, 2, none⟩) (by dsimp only; omega) o)))) (.slice (some ⟨ga, 0, none⟩) (n + 1) ca);generalize (w1gn).setCell ⟨nb, 2, none⟩ (.slice (some ⟨ga, 0, none⟩) (n + 1) ca) = ygn at *;have fn := Dn.f4;have fR := R.f;go_quiet (fail)
        clear fn fR;have Dr := (Dr.drewN nq);have Dn := (Dn.drewN nq);have R := (R.drewN nq);have P := (P.drewN nq);have O := (O.drewN nq);have X1 := (X1.drewN nq);generalize (ygn).drewN nq = zgn at *;have fn := Dn.f4;have fR := R.f;go_wp2
        have hM2 : paM l b zgn = l.length - k2 + 1 := by rw [paM_at R, if_pos rfl]
        have hkl2 := R.kl;go_roundw
        case rel => exact ⟨_, _, _, _, _, _, _, _, _, set_more HT.out hf hkl (range_two HS1.out H45.out HS2.out HF.out) (by rw [HZg.out]; decide) H126.out (by have h1 := O.hn; omega), R, P, O, Dn, Dr, X1.le⟩
        case measure => rw [hM, hM2]; omega
    ·
     by_cases hqb : k1 < l.length
     ·
      by_cases h93 : Rx.pk l k1 = 93
      ·
       have hxb := pk_byteAt R.txt k1 (by omega);rw [h93] at hxb;have hqlb : (k1 : Int) < (l.length : Int) := by omega
       have hqmb : (0 : Int) ≤ (k1 : Int) := by omega
       clear fn fR;have fn := Dn.f4;have fR := R.f;go_wp2_with fail
       go_quiet (fail)
       clear fn fR;have Dr := (Dr.drewN nq);have Dn := (Dn.drewN nq);have R := (R.drewN nq);have P := (P.drewN nq);have O := (O.drewN nq);have X1 := (X1.drewN nq);generalize (w1).drewN nq = xbe at *;have fn := Dn.f4;have fR := R.f;go_wp2_with (at_builtin; refine wpList_append_own_at _ rfl _ _ 52 rfl bs 147 i0 (.agg #[.int .u8 0, .int .u8 0]) 2 2 Tryz.underlying52 HI.out HZ.out HZ1.out HZ2.out rfl (by decide) _ _ _ rfl (O.own.alloc _) ⟨xbe.heap.size, 0, none⟩ 1 1 [.int .u8 (va : Int), .int .u8 (va : Int)] rfl rfl (rxcells2_new _ _ _ _) ?j1be ?j2be ?j3be ?j4be ?_)
       case j1be => first | (intro u hu; simp at hu; rcases hu with rfl | rfl <;> rfl) | exact ⟨rfl, rfl⟩
       case j2be => have h1 := O.len; unfold maxLen; omega
       case j3be => have h1 := O.len; omega
       case j4be => (try simp); have h1 := X1.le; omega
       intro v' w1be hown hgrow _ hor;obtain ⟨ga, ca, rfl, hgabe, hgbbe⟩ := hown.form (by omega);clear fn fR;have Dr := grown_at hgrow (Dr.alloc (.cells #[.int .u8 (va : Int), .int .u8 (va : Int)] 147)) (fun e2 => by have h1 := (O.lt _ e2).1; omega);have Dn := grown_at hgrow (Dn.alloc (.cells #[.int .u8 (va : Int), .int .u8 (va : Int)] 147)) (fun e2 => by have h1 := (O.lt _ e2).1; omega);have X1 := (X1.alloc (.cells #[.int .u8 (va : Int), .int .u8 (va : Int)] 147)).grown hgrow (fun g e2 => by have h1 := O.lt _ e2; omega);have R := (R.alloc (.cells #[.int .u8 (va : Int), .int .u8 (va : Int)] 147)).grown hgrow (fun e2 => by have h1 := (O.lt _ e2).1; omega);have P := (P.alloc (.cells #[.int .u8 (va : Int), .int .u8 (va : Int)] 147)).grown hgrow (fun g e2 => by have h1 := (O.lt _ e2).1; omega);have O := O.snoc va va hown (by have h1 := O.hn; omega);clear hown hgrow hor;have fn := Dn.f4;have fR := R.f;go_wp2_with fail
       clear fn fR;have Dr := (Dr.far (b' := nb) (j := 2) (by omega) (.slice (some ⟨ga, 0, none⟩) (n + 1) ca));have Dn : At ((w1be).setCell ⟨nb, 2, none⟩ (.slice (some ⟨ga, 0, none⟩) (n + 1) ca)) (nb) [.int .u8 99, .bool true, .slice (some ⟨ga, 0, none⟩) (n + 1) ca, .slice none 0 0] := (Dn.set 2 (.slice (some ⟨ga, 0, none⟩) (n + 1) ca));obtain ⟨R, P, O, X1⟩ := (fun o => And.intro (R.far (c := nb) 2 (by omega) o) (And.intro (P.setCell (p := ⟨nb, 2, none⟩) (.inl (by dsimp only; omega)) o) (And.intro (O.setCell (p := ⟨nb, 2, none⟩) (by dsimp only; omega) o) (X1.setCell (p := ⟨nb, 2, none⟩) (by dsimp only; omega) o)))) (.slice (some ⟨ga, 0, none⟩) (n + 1) ca);generalize (w1be).setCell ⟨nb, 2, none⟩ (.slice (some ⟨ga, 0, none⟩) (n + 1) ca) = ybe at *;have fn := Dn.f4;have fR := R.f;go_quiet (fail)
       clear fn fR;have Dr := (Dr.drewN nq);have Dn := (Dn.drewN nq);have R := (R.drewN nq);have P := (P.drewN nq);have O := (O.drewN nq);have X1 := (X1.drewN nq);generalize (ybe).drewN nq = zbe at *;have fr := Dr.f4;have fn := Dn.f4;have fR := R.f;go_upto_region 18 with (fail)
       clear fr fn fR;have Dr := (Dr.far (b' := b) (j := 1) (by omega) (.int .i64 ((k1 : Int) + 1)));have Dn := (Dn.far (b' := b) (j := 1) (by omega) (.int .i64 ((k1 : Int) + 1)));have R := (R.move (z' := (k1 : Int) + 1) (k' := k1 + 1) (by omega) (by omega));have P := (P.setCell (p := ⟨b, 1, none⟩) (.inr rfl) (.int .i64 ((k1 : Int) + 1)));have O := (O.setCell (p := ⟨b, 1, none⟩) (by dsimp only; omega) (.int .i64 ((k1 : Int) + 1)));have X1 := (X1.setCell (p := ⟨b, 1, none⟩) (by dsimp only; omega) (.int .i64 ((k1 : Int) + 1)));generalize (zbe).setCell ⟨b, 1, none⟩ (.int .i64 ((k1 : Int) + 1)) = gbe at *;have fr := Dr.f4;have fn := Dn.f4;have fR := R.f
       repeat go_step
       clear fr fn fR;obtain ⟨Dr, Dn, R, P, O, X1⟩ := (fun o0 o1 o2 o3 => And.intro (Dr.puts4 o0 o1 o2 o3) (And.intro (Dn.fars4 (w.heap.size) (by omega) o0 o1 o2 o3) (And.intro (R.fars4 (w.heap.size) (by omega) o0 o1 o2 o3) (And.intro (P.sets4 (w.heap.size) (by omega) o0 o1 o2 o3) (And.intro (O.sets4 (w.heap.size) (by omega) o0 o1 o2 o3) (X1.sets4 (w.heap.size) (by omega) o0 o1 o2 o3)))))) (.int .u8 99) (.bool true) (.slice (some ⟨ga, 0, none⟩) (n + 1) ca) (.slice none 0 0);generalize ((((gbe).setCell ⟨w.heap.size, 0, none⟩ (.int .u8 99)).setCell ⟨w.heap.size, 1, none⟩ (.bool true)).setCell ⟨w.heap.size, 2, none⟩ (.slice (some ⟨ga, 0, none⟩) (n + 1) ca)).setCell ⟨w.heap.size, 3, none⟩ (.slice none 0 0) = fbe at *;have fr := Dr.f4;have fn := Dn.f4;have fR := R.f;have hTe := set_end HT.out hf (range_one HS1.out h45) h93;have h127 : ∀ r ∈ rs ++ [(va, va)], r.2 ≤ 126 := fun q hq => by
        rcases List.mem_append.1 hq with h | h
        ·
         exact H126.out q h
        ·
         rw [List.mem_singleton.1 h]; simp; omega
       have hset := (O.is (by omega)).keep (S' := Rng w fbe) (w' := fbe) (fun g hg => ⟨by have := hg.1; omega, hg.2⟩) (fun _ _ => rfl);refine bodyPost_ret (v := ndV ⟨99, true, some ⟨ga, 0, none⟩, n + 1, ca, none, 0, 0⟩) (by simp [results, Tryz.results83, go_sem, fr]; try rfl) rfl ?_;rw [HR.out, hTe];exact ⟨⟨99, true, some ⟨ga, 0, none⟩, n + 1, ca, none, 0, 0⟩, _, _, _, _, _, rfl, R, P, rfl, rfl, rfl, 1, Or.inl ⟨_, rfl, hset, h127, rfl⟩⟩
      ·
       have hxb := pk_byteAt R.txt k1 (by omega);have hqlb : (k1 : Int) < (l.length : Int) := by omega
       have hqmb : (0 : Int) ≤ (k1 : Int) := by omega
       obtain ⟨xb, hxxb⟩ : ∃ x, Rx.pk l k1 = x := ⟨_, rfl⟩;rw [hxxb] at hxb;have d93b : ((xb : Int) == 93) = false := by rw [beq_eq_false_iff_ne]; omega
       have HXXb := Lib.hid hxxb;have d45 : ((xb : Int) == 45) = false := by rw [beq_eq_false_iff_ne]; omega
       clear hxxb;clear fn fR;have fn := Dn.f4;have fR := R.f;go_wp2_with fail
       go_quiet (fail)
       clear fn fR;have Dr := (Dr.drewN nq);have Dn := (Dn.drewN nq);have R := (R.drewN nq);have P := (P.drewN nq);have O := (O.drewN nq);have X1 := (X1.drewN nq);generalize (w1).drewN nq = xbm at *;have fn := Dn.f4;have fR := R.f;go_wp2_with (at_builtin; refine wpList_append_own_at _ rfl _ _ 52 rfl bs 147 i0 (.agg #[.int .u8 0, .int .u8 0]) 2 2 Tryz.underlying52 HI.out HZ.out HZ1.out HZ2.out rfl (by decide) _ _ _ rfl (O.own.alloc _) ⟨xbm.heap.size, 0, none⟩ 1 1 [.int .u8 (va : Int), .int .u8 (va : Int)] rfl rfl (rxcells2_new _ _ _ _) ?j1bm ?j2bm ?j3bm ?j4bm ?_)
       case j1bm => first | (intro u hu; simp at hu; rcases hu with rfl | rfl <;> rfl) | exact ⟨rfl, rfl⟩
       case j2bm => have h1 := O.len; unfold maxLen; omega
       case j3bm => have h1 := O.len; omega
       case j4bm => (try simp); have h1 := X1.le; omega
       intro v' w1bm hown hgrow _ hor;obtain ⟨ga, ca, rfl, hgabm, hgbbm⟩ := hown.form (by omega);clear fn fR;have Dr := grown_at hgrow (Dr.alloc (.cells #[.int .u8 (va : Int), .int .u8 (va : Int)] 147)) (fun e2 => by have h1 := (O.lt _ e2).1; omega);have Dn := grown_at hgrow (Dn.alloc (.cells #[.int .u8 (va : Int), .int .u8 (va : Int)] 147)) (fun e2 => by have h1 := (O.lt _ e2).1; omega);have X1 := (X1.alloc (.cells #[.int .u8 (va : Int), .int .u8 (va : Int)] 147)).grown hgrow (fun g e2 => by have h1 := O.lt _ e2; omega);have R := (R.alloc (.cells #[.int .u8 (va : Int), .int .u8 (va : Int)] 147)).grown hgrow (fun e2 => by have h1 := (O.lt _ e2).1; omega);have P := (P.alloc (.cells #[.int .u8 (va : Int), .int .u8 (va : Int)] 147)).grown hgrow (fun g e2 => by have h1 := (O.lt _ e2).1; omega);have O := O.snoc va va hown (by have h1 := O.hn; omega);clear hown hgrow hor;have fn := Dn.f4;have fR := R.f;go_wp2_with fail
       clear fn fR;have Dr := (Dr.far (b' := nb) (j := 2) (by omega) (.slice (some ⟨ga, 0, none⟩) (n + 1) ca));have Dn : At ((w1bm).setCell ⟨nb, 2, none⟩ (.slice (some ⟨ga, 0, none⟩) (n + 1) ca)) (nb) [.int .u8 99, .bool true, .slice (some ⟨ga, 0, none⟩) (n + 1) ca, .slice none 0 0] := (Dn.set 2 (.slice (some ⟨ga, 0, none⟩) (n + 1) ca));obtain ⟨R, P, O, X1⟩ := (fun o => And.intro (R.far (c := nb) 2 (by omega) o) (And.intro (P.setCell (p := ⟨nb, 2, none⟩) (.inl (by dsimp only; omega)) o) (And.intro (O.setCell (p := ⟨nb, 2, none⟩) (by dsimp only; omega) o) (X1.setCell (p := ⟨nb, 2, none⟩) (by dsimp only; omega) o)))) (.slice (some ⟨ga, 0, none⟩) (n + 1) ca);generalize (w1bm).setCell ⟨nb, 2, none⟩ (.slice (some ⟨ga, 0, none⟩) (n + 1) ca) = ybm at *;have fn := Dn.f4;have fR := R.f;go_quiet (fail)
       clear fn fR;have Dr := (Dr.drewN nq);have Dn := (Dn.drewN nq);have R := (R.drewN nq);have P := (P.drewN nq);have O := (O.drewN nq);have X1 := (X1.drewN nq);generalize (ybm).drewN nq = zbm at *;have fn := Dn.f4;have fR := R.f;go_wp2
       have hM2 : paM l b zbm = l.length - k1 + 1 := by rw [paM_at R, if_pos rfl]
       have hkl2 := R.kl;go_roundw
       case rel => exact ⟨_, _, _, _, _, _, _, _, _, set_more HT.out hf hkl (range_one HS1.out h45) (h93) H126.out (by have h1 := O.hn; omega), R, P, O, Dn, Dr, X1.le⟩
       case measure => rw [hM, hM2]; omega
     ·
      have hzb := Rx.pk_end (l := l) (k := k1) (by omega);have dqb : decide ((k1 : Int) < (l.length : Int)) = false := decide_eq_false (by omega);have HZb := Lib.hid hzb;clear hzb;clear fn fR;have fn := Dn.f4;have fR := R.f;go_wp2_with fail
      go_quiet (fail)
      clear fn fR;have Dr := (Dr.drewN nq);have Dn := (Dn.drewN nq);have R := (R.drewN nq);have P := (P.drewN nq);have O := (O.drewN nq);have X1 := (X1.drewN nq);generalize (w1).drewN nq = xbn at *;have fn := Dn.f4;have fR := R.f;go_wp2_with (at_builtin; refine wpList_append_own_at _ rfl _ _ 52 rfl bs 147 i0 (.agg #[.int .u8 0, .int .u8 0]) 2 2 Tryz.underlying52 HI.out HZ.out HZ1.out HZ2.out rfl (by decide) _ _ _ rfl (O.own.alloc _) ⟨xbn.heap.size, 0, none⟩ 1 1 [.int .u8 (va : Int), .int .u8 (va : Int)] rfl rfl (rxcells2_new _ _ _ _) ?j1bn ?j2bn ?j3bn ?j4bn ?_)
      case j1bn => first | (intro u hu; simp at hu; rcases hu with rfl | rfl <;> rfl) | exact ⟨rfl, rfl⟩
      case j2bn => have h1 := O.len; unfold maxLen; omega
      case j3bn => have h1 := O.len; omega
      case j4bn => (try simp); have h1 := X1.le; omega
      intro v' w1bn hown hgrow _ hor;obtain ⟨ga, ca, rfl, hgabn, hgbbn⟩ := hown.form (by omega);clear fn fR;have Dr := grown_at hgrow (Dr.alloc (.cells #[.int .u8 (va : Int), .int .u8 (va : Int)] 147)) (fun e2 => by have h1 := (O.lt _ e2).1; omega);have Dn := grown_at hgrow (Dn.alloc (.cells #[.int .u8 (va : Int), .int .u8 (va : Int)] 147)) (fun e2 => by have h1 := (O.lt _ e2).1; omega);have X1 := (X1.alloc (.cells #[.int .u8 (va : Int), .int .u8 (va : Int)] 147)).grown hgrow (fun g e2 => by have h1 := O.lt _ e2; omega);have R := (R.alloc (.cells #[.int .u8 (va : Int), .int .u8 (va : Int)] 147)).grown hgrow (fun e2 => by have h1 := (O.lt _ e2).1; omega);have P := (P.alloc (.cells #[.int .u8 (va : Int), .int .u8 (va : Int)] 147)).grown hgrow (fun g e2 => by have h1 := (O.lt _ e2).1; omega);have O := O.snoc va va hown (by have h1 := O.hn; omega);clear hown hgrow hor;have fn := Dn.f4;have fR := R.f;go_wp2_with fail
      clear fn fR;have Dr := (Dr.far (b' := nb) (j := 2) (by omega) (.slice (some ⟨ga, 0, none⟩) (n + 1) ca));have Dn : At ((w1bn).setCell ⟨nb, 2, none⟩ (.slice (some ⟨ga, 0, none⟩) (n + 1) ca)) (nb) [.int .u8 99, .bool true, .slice (some ⟨ga, 0, none⟩) (n + 1) ca, .slice none 0 0] := (Dn.set 2 (.slice (some ⟨ga, 0, none⟩) (n + 1) ca));obtain ⟨R, P, O, X1⟩ := (fun o => And.intro (R.far (c := nb) 2 (by omega) o) (And.intro (P.setCell (p := ⟨nb, 2, none⟩) (.inl (by dsimp only; omega)) o) (And.intro (O.setCell (p := ⟨nb, 2, none⟩) (by dsimp only; omega) o) (X1.setCell (p := ⟨nb, 2, none⟩) (by dsimp only; omega) o)))) (.slice (some ⟨ga, 0, none⟩) (n + 1) ca);generalize (w1bn).setCell ⟨nb, 2, none⟩ (.slice (some ⟨ga, 0, none⟩) (n + 1) ca) = ybn at *;have fn := Dn.f4;have fR := R.f;go_quiet (fail)
      clear fn fR;have Dr := (Dr.drewN nq);have Dn := (Dn.drewN nq);have R := (R.drewN nq);have P := (P.drewN nq);have O := (O.drewN nq);have X1 := (X1.drewN nq);generalize (ybn).drewN nq = zbn at *;have fn := Dn.f4;have fR := R.f;go_wp2
      have hM2 : paM l b zbn = l.length - k1 + 1 := by rw [paM_at R, if_pos rfl]
      have hkl2 := R.kl;go_roundw
      case rel => exact ⟨_, _, _, _, _, _, _, _, _, set_more HT.out hf hkl (range_one HS1.out h45) (by rw [HZb.out]; decide) H126.out (by have h1 := O.hn; omega), R, P, O, Dn, Dr, X1.le⟩
      case measure => rw [hM, hM2]; omega
  ·
   have hne2 : ((er : Int) == 0) = false := by rw [beq_eq_false_iff_ne]; omega
   have fr := Dr.f4;have fn := Dn.f4;have fR := R.f;go_upto_region 19 with (fail)
   repeat go_step
   clear fr fn fR;obtain ⟨Dr, Dn, R, P, O, X1⟩ := (fun o0 o1 o2 o3 => And.intro (Dr.puts4 o0 o1 o2 o3) (And.intro (Dn.fars4 (w.heap.size) (by omega) o0 o1 o2 o3) (And.intro (R.fars4 (w.heap.size) (by omega) o0 o1 o2 o3) (And.intro (P.sets4 (w.heap.size) (by omega) o0 o1 o2 o3) (And.intro (O.sets4 (w.heap.size) (by omega) o0 o1 o2 o3) (X1.sets4 (w.heap.size) (by omega) o0 o1 o2 o3)))))) (.int .u8 0) (.bool false) (.slice none 0 0) (.slice none 0 0);generalize ((((wr).setCell ⟨w.heap.size, 0, none⟩ (.int .u8 0)).setCell ⟨w.heap.size, 1, none⟩ (.bool false)).setCell ⟨w.heap.size, 2, none⟩ (.slice none 0 0)).setCell ⟨w.heap.size, 3, none⟩ (.slice none 0 0) = q9 at *;have fr := Dr.f4;have fn := Dn.f4;have fR := R.f;refine bodyPost_ret (v := ndV nd0) (by simp [results, Tryz.results83, go_sem, fr, nd0]; try rfl) rfl ?_;rw [HR.out, hT];exact ⟨nd0, _, _, _, _, _, rfl, R, P, rfl, rfl, hne⟩
end Go.Proofs.YthdoniefjmphaaaGreatDoor
namespace Go.Proofs.YthdoniefjmphaaaGreatDoor
open Go Go.Proofs Go.RowKit Go.Shelf
set_option maxRecDepth 100000
theorem rset_any (b : Nat) (s : ByteArray) (l : List UInt8) (z dz : Int) (k dp : Nat) (w : World) (R : Pa b s l z dz 0 0 k dp w) (h91 : Rx.pk l k = 91) :
    Calls Tryz.prog 83 #[.pointer (some ⟨b, 0, none⟩)] w (NP b w s l dp (Rx.setF l k)) := by
  obtain rfl := R.hk;have hk := Rx.pk_lt (l := l) (k := k) (by omega);by_cases h94 : Rx.pk l (k + 1) = 94
  · have e : Rx.setF l k = setRes true (Rx.itemsF l (l.length + 1) (k + 2) []) := by
      unfold Rx.setF; rw [if_pos h94, show (Rx.pk l (k + 1) == 94) = true from by rw [beq_iff_eq]; exact h94]; rfl
    rw [e];exact set_T b s l dz k dp w R hk (Rx.pk_lt (by omega)) h94 _ rfl
  · have e : Rx.setF l k = setRes false (Rx.itemsF l (l.length + 1) (k + 1) []) := by
      unfold Rx.setF; rw [if_neg h94, show (Rx.pk l (k + 1) == 94) = false from by rw [beq_eq_false_iff_ne]; exact h94]; rfl
    rw [e];by_cases hlt : k + 1 < l.length
    · exact set_N b s l dz k dp w R hk hlt h94 _ rfl
    · exact set_E b s l dz k dp w R hk (by omega) _ rfl
end Go.Proofs.YthdoniefjmphaaaGreatDoor
