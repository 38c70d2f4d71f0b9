/- The reference: set. -/
import Derived.Test.YtcfdpbbpdnpnnaaDoorRSetM
namespace Go.Proofs.YtcfdpbbpdnpnnaaDoor
open Go Go.Proofs Go.RowKit Go.Shelf
set_option maxRecDepth 100000
attribute [local go_sem] cell_set ndV
set_option maxHeartbeats 8000000 in
theorem set_E (b : Nat) (s : ByteArray) (l : List UInt8) (dz : Int) (k dp : Nat) (w : World) (R : Pa b s l (k : Int) dz 0 0 k dp w) (hk : k < l.length) (hw : l.length ≤ k + 1) (T : Rx.Res (List (Nat × Nat))) (hT : Rx.itemsF l (l.length + 1) (k + 1) [] = T) :
  Calls Tryd.prog 49 #[.pointer (some ⟨b, 0, none⟩)] w (NP b w s l dp (setRes false T)) := by
 obtain ⟨i0, hi, hz0, hz1, hz2⟩ := info_parts info_two
 have HI := Lib.hid hi
 have HZ := Lib.hid hz0
 have HZ1 := Lib.hid hz1
 have HZ2 := Lib.hid hz2
 clear hi hz0 hz1 hz2
 have hsz : s.size = l.length := by rw [Lib.size_eq, R.txt]
 have hl := R.ll
 have P := Kq.refl b w
 have hw0 := R.cells.lt
 have hST : SetSt l T (k + 1) 0 0 [] := Or.inl ⟨rfl, rfl, by simp, by simp, _, hT, by omega⟩
 have HST := Lib.hid hST
 clear hT hST
 have d1 : decide ((k : Int) + 1 < (l.length : Int)) = false := decide_eq_false (by omega)
 obtain ⟨r, hr⟩ : ∃ r : Rx.Res Rx.Pt, r = (setRes false T) := ⟨_, rfl⟩
 rw [← hr]
 have HR := Lib.hid hr
 clear hr
 have fR := R.f
 go_enter Tryd.func49, Tryd.ntmps49
 go_upto_region 2 with (fail)
 clear fR
 have uR0 := R.cells.lt
 have Dr : At (((w).alloc (.cells #[.int .u8 0, .bool false, .slice none 0 0, .slice none 0 0] 30)).alloc (.cells #[.int .u8 99, .bool false, .slice none 0 0, .slice none 0 0] 30)) (w.heap.size) [.int .u8 0, .bool false, .slice none 0 0, .slice none 0 0] := by have h := ((At.new (w) #[.int .u8 0, .bool false, .slice none 0 0, .slice none 0 0] 30).alloc (.cells #[.int .u8 99, .bool false, .slice none 0 0, .slice none 0 0] 30)); simpa using h
 have Dn : At (((w).alloc (.cells #[.int .u8 0, .bool false, .slice none 0 0, .slice none 0 0] 30)).alloc (.cells #[.int .u8 99, .bool false, .slice none 0 0, .slice none 0 0] 30)) (w.heap.size + 1) [.int .u8 99, .bool false, .slice none 0 0, .slice none 0 0] := by have h := (At.new ((w).alloc (.cells #[.int .u8 0, .bool false, .slice none 0 0, .slice none 0 0] 30)) #[.int .u8 99, .bool false, .slice none 0 0, .slice none 0 0] 30); simpa using h
 have R := ((R.alloc (.cells #[.int .u8 0, .bool false, .slice none 0 0, .slice none 0 0] 30)).alloc (.cells #[.int .u8 99, .bool false, .slice none 0 0, .slice none 0 0] 30))
 have P := ((P.alloc (.cells #[.int .u8 0, .bool false, .slice none 0 0, .slice none 0 0] 30)).alloc (.cells #[.int .u8 99, .bool false, .slice none 0 0, .slice none 0 0] 30))
 generalize ((w).alloc (.cells #[.int .u8 0, .bool false, .slice none 0 0, .slice none 0 0] 30)).alloc (.cells #[.int .u8 99, .bool false, .slice none 0 0, .slice none 0 0] 30) = v00 at *
 have hnr : w.heap.size < w.heap.size + 1 := Nat.lt_succ_self _
 obtain ⟨nb, hnb⟩ : ∃ nb, nb = w.heap.size + 1 := ⟨_, rfl⟩
 rw [← hnb] at Dn ⊢
 have hrn : w.heap.size < nb := by omega
 clear hnb hnr
 have fr := Dr.f4
 have fn := Dn.f4
 have fR := R.f
 go_wp2_with fail
 clear fr fn fR
 have Dr := (Dr.far (b' := b) (j := 1) (by omega) (.int .i64 ((k : Int) + 1)))
 have Dn := (Dn.far (b' := b) (j := 1) (by omega) (.int .i64 ((k : Int) + 1)))
 have R := (R.move (z' := (k : Int) + 1) (k' := k + 1) (by omega) (by omega))
 have P := (P.setCell (p := ⟨b, 1, none⟩) (.inr rfl) (.int .i64 ((k : Int) + 1)))
 generalize (v00).setCell ⟨b, 1, none⟩ (.int .i64 ((k : Int) + 1)) = v0 at *
 obtain ⟨bs, hbs⟩ : ∃ bs, bs = v0.heap.size := ⟨_, rfl⟩
 have hnbs : nb < bs := by have h := Dn.lt; omega
 have hbs2 : bs ≤ v0.heap.size := by omega
 clear hbs
 have X0 : Kx (bs) (bs) v0 v0 := ⟨hbs2, fun _ _ _ => by omega⟩
 have fr := Dr.f4
 have fn := Dn.f4
 have fR := R.f
 go_quiet (fail)
 clear fr fn fR
 have Dr := (Dr.drewN nq)
 have Dn := (Dn.drewN nq)
 have R := (R.drewN nq)
 have P := (P.drewN nq)
 have X0 := (X0.drewN nq)
 generalize (v0).drewN nq = v1 at *
 have fr := Dr.f4
 have fn := Dn.f4
 have fR := R.f
 go_wp2_with fail
 clear fr fn fR
 have fr := Dr.f4
 have fn := Dn.f4
 have fR := R.f
 have O := Bts.nil v1 bs
 go_loopw [4, 5, 6, 7, 8] (fun v4 v5 v6 v7 v8 wr => ∃ (rs : List (Nat × Nat)) (sa : Option Addr) (n sc : Nat) (z dz1 bad pos : Int) (k : Nat), (bad = 0 → l.length ≤ k) ∧ SetSt l T k bad pos rs ∧ Pa b s l z dz1 bad pos k dp wr ∧ Kq b w wr ∧ Bts bs wr sa n sc rs ∧ At wr nb [.int .u8 99, .bool false, .slice sa n sc, .slice none 0 0] ∧ At wr w.heap.size [.int .u8 0, .bool false, .slice none 0 0, .slice none 0 0] ∧ bs ≤ wr.heap.size) (fun _ _ _ _ _ wr => paM l b wr)
 case atStart => exact ⟨[], none, 0, 0, _, _, _, _, _, fun _ => hw, HST.out, R, P, O, Dn, Dr, by have h := X0.le; omega⟩
 case round =>
  clear Dn Dr R P O HST
  obtain ⟨rs, sa, n, sc, z, dz1, bad, pos, k0, hE, hst, R, P, O, Dn, Dr, hble⟩ := hrel
  have hkl := R.kl
  have X1 : Kx (bs) (bs) wr wr := ⟨hble, fun _ _ _ => by omega⟩
  rcases hst with ⟨rfl, rfl, h126, hrl, f, hT, hf⟩ | ⟨er, j, hT, rfl, rfl, hne⟩
  ·
   obtain rfl := R.hk
   have hM : paM l b wr = l.length - k0 + 1 := by rw [paM_at R, if_pos rfl]
   have hkE : l.length ≤ k0 := hE rfl
   clear hE
   have HT := Lib.hid hT
   have H126 := Lib.hid h126
   clear hT h126
   have fn := Dn.f4
   have fR := R.f
   go_wp2_with fail
   clear fn fR
   have ltr := Dr.lt
   have ltn := Dn.lt
   have ltR := R.cells.lt
   refine (byte1_any b s l _ _ _ _ _ R).mono ?_
   rintro e w1 ⟨va, z1, dz2, bad, pos, k1, rfl, R2, P2, hs1⟩
   have Dr := Dr.kq P2 (by omega)
   have Dn := Dn.kq P2 (by omega)
   have X1 := X1.kq P2 (by omega)
   have O := O.kq P2 (by omega)
   have P := P.trans P2
   have P3 := P2
   have R := R2
   clear R2 P2
   clear ltR ltr ltn
   have fn := Dn.f4
   have fR := R.f
   clear P3
   cases hS1 : Rx.singleF Rx.inL l k0 with
   | bad er j =>
    rw [hS1] at hs1
    obtain ⟨rfl, rfl, hne⟩ := hs1
    have hTb := set_bad HT.out hf (range_bad hS1)
    have hne2 : ((er : Int) == 0) = false := by rw [beq_eq_false_iff_ne]; omega
    clear hS1
    go_wp2_with fail
    go_quiet (fail)
    clear fn fR
    have Dr := (Dr.drewN nq)
    have Dn := (Dn.drewN nq)
    have R := (R.drewN nq)
    have P := (P.drewN nq)
    have O := (O.drewN nq)
    have X1 := (X1.drewN nq)
    generalize (w1).drewN nq = x1 at *
    have fn := Dn.f4
    have fR := R.f
    --@ a
    go_wp2_with (at_builtin; refine wpList_append_own_at _ rfl _ _ 27 rfl bs 85 i0 (.agg #[.int .u8 0, .int .u8 0]) 2 2 Tryd.underlying27 HI.out HZ.out HZ1.out HZ2.out rfl (by decide) _ _ _ rfl (O.own.alloc _) ⟨x1.heap.size, 0, none⟩ 1 1 [.int .u8 (va : Int), .int .u8 (va : Int)] rfl rfl (cells2_new _ _ _ _) ?j1a ?j2a ?j3a ?j4a ?_)
    case j1a => first | (intro u hu; simp at hu; rcases hu with rfl | rfl <;> rfl) | exact ⟨rfl, rfl⟩
    case j2a => have h1 := O.len; unfold maxLen; omega
    case j3a => have h1 := O.len; omega
    case j4a => (try simp); have h1 := X1.le; omega
    intro v' w1a hown hgrow _ hor
    obtain ⟨ga, ca, rfl, hgaa, hgba⟩ := hown.form (by omega)
    clear fn fR
    have Dr := grown_at hgrow (Dr.alloc (.cells #[.int .u8 (va : Int), .int .u8 (va : Int)] 85)) (fun e2 => by have h1 := (O.lt _ e2).1; omega)
    have Dn := grown_at hgrow (Dn.alloc (.cells #[.int .u8 (va : Int), .int .u8 (va : Int)] 85)) (fun e2 => by have h1 := (O.lt _ e2).1; omega)
    have X1 := (X1.alloc (.cells #[.int .u8 (va : Int), .int .u8 (va : Int)] 85)).grown hgrow (fun g e2 => by have h1 := O.lt _ e2; omega)
    have R := (R.alloc (.cells #[.int .u8 (va : Int), .int .u8 (va : Int)] 85)).grown hgrow (fun e2 => by have h1 := (O.lt _ e2).1; omega)
    have P := (P.alloc (.cells #[.int .u8 (va : Int), .int .u8 (va : Int)] 85)).grown hgrow (fun g e2 => by have h1 := (O.lt _ e2).1; omega)
    have O := O.snoc va va hown (by have h1 := O.hn; omega)
    clear hown hgrow hor
    have fn := Dn.f4
    have fR := R.f
    go_wp2_with fail
    clear fn fR
    have Dr := (Dr.far (b' := nb) (j := 2) (by omega) (.slice (some ⟨ga, 0, none⟩) (n + 1) ca))
    have Dn : At ((w1a).setCell ⟨nb, 2, none⟩ (.slice (some ⟨ga, 0, none⟩) (n + 1) ca)) (nb) [.int .u8 99, .bool false, .slice (some ⟨ga, 0, none⟩) (n + 1) ca, .slice none 0 0] := (Dn.set 2 (.slice (some ⟨ga, 0, none⟩) (n + 1) ca))
    have R := (R.far (c := nb) 2 (by omega) (.slice (some ⟨ga, 0, none⟩) (n + 1) ca))
    have P := (P.setCell (p := ⟨nb, 2, none⟩) (.inl (by dsimp only; omega)) (.slice (some ⟨ga, 0, none⟩) (n + 1) ca))
    have O := (O.setCell (p := ⟨nb, 2, none⟩) (by dsimp only; omega) (.slice (some ⟨ga, 0, none⟩) (n + 1) ca))
    have X1 := (X1.setCell (p := ⟨nb, 2, none⟩) (by dsimp only; omega) (.slice (some ⟨ga, 0, none⟩) (n + 1) ca))
    generalize (w1a).setCell ⟨nb, 2, none⟩ (.slice (some ⟨ga, 0, none⟩) (n + 1) ca) = x2 at *
    have fn := Dn.f4
    have fR := R.f
    go_quiet (fail)
    clear fn fR
    have Dr := (Dr.drewN nq)
    have Dn := (Dn.drewN nq)
    have R := (R.drewN nq)
    have P := (P.drewN nq)
    have O := (O.drewN nq)
    have X1 := (X1.drewN nq)
    generalize (x2).drewN nq = x3 at *
    have fn := Dn.f4
    have fR := R.f
    go_wp2
    have hM2 : paM l b x3 = 0 := by rw [paM_at R, if_neg (by omega)]
    have hkl2 := R.kl
    go_roundw
    case rel => exact ⟨_, _, _, _, _, _, _, _, _, fun e => absurd e (by omega), Or.inr ⟨er, j, hTb, rfl, rfl, hne⟩, R, P, O, Dn, Dr, X1.le⟩
    case measure => rw [hM, hM2]; omega
   | ok c j =>
    exfalso
    have hz := Rx.pk_end (l := l) (k := k0) hkE
    unfold Rx.singleF at hS1
    rw [if_neg (by omega), if_pos (by omega)] at hS1
    cases hS1
  ·
   have hne2 : ((er : Int) == 0) = false := by rw [beq_eq_false_iff_ne]; omega
   --@ p0
   have fr := Dr.f4
   have fn := Dn.f4
   have fR := R.f
   go_upto_region 19 with (fail)
   repeat go_step
   clear fr fn fR
   have Dr := (Dr.puts4 (.int .u8 0) (.bool false) (.slice none 0 0) (.slice none 0 0))
   have Dn := (Dn.fars4 (w.heap.size) (by omega) (.int .u8 0) (.bool false) (.slice none 0 0) (.slice none 0 0))
   have R := (R.fars4 (w.heap.size) (by omega) (.int .u8 0) (.bool false) (.slice none 0 0) (.slice none 0 0))
   have P := (P.sets4 (w.heap.size) (by omega) (.int .u8 0) (.bool false) (.slice none 0 0) (.slice none 0 0))
   have O := (O.sets4 (w.heap.size) (by omega) (.int .u8 0) (.bool false) (.slice none 0 0) (.slice none 0 0))
   have X1 := (X1.sets4 (w.heap.size) (by omega) (.int .u8 0) (.bool false) (.slice none 0 0) (.slice none 0 0))
   generalize ((((wr).setCell ⟨w.heap.size, 0, none⟩ (.int .u8 0)).setCell ⟨w.heap.size, 1, none⟩ (.bool false)).setCell ⟨w.heap.size, 2, none⟩ (.slice none 0 0)).setCell ⟨w.heap.size, 3, none⟩ (.slice none 0 0) = q9 at *
   have fr := Dr.f4
   have fn := Dn.f4
   have fR := R.f
   refine bodyPost_ret (v := ndV nd0) (by simp [results, Tryd.results49, go_sem, fr, nd0]; try rfl) rfl ?_
   rw [HR.out, hT]
   exact ⟨nd0, _, _, _, _, _, rfl, R, P, rfl, rfl, hne⟩
end Go.Proofs.YtcfdpbbpdnpnnaaDoor
