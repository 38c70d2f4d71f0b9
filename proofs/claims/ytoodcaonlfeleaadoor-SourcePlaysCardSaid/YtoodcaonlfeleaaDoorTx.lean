/- source: Tick, Put. -/
import Derived.Test.YtoodcaonlfeleaaDoorTw
namespace Go.Proofs.YtoodcaonlfeleaaDoor
open Go Go.Proofs Go.RowKit Go.Shelf
set_option maxRecDepth 100000
attribute [local go_sem] cell_set Oper.semAt_some
theorem advance_any {N : Int} (b : Nat) (A : Tb) (hA : TbOk N A) (hN : N ≤ 1000000) (w : World) (h : TAt w b A) : Calls Tryd.prog 29 #[tp b] w (AvPost b A w) := (callsIn_wide (n := 9)).1 (advance_wd b A hA hN w h)
theorem TbOk.tick {N : Int} {A : Tb} (h : TbOk N A) : TbOk (N + 1) { A with ticks := A.ticks + 1 } :=
  ⟨h.len, h.l0, h.i0, by have := h.k0; dsimp only; omega, h.f0, fun r hr => by
    obtain ⟨a, b, c, d⟩ := h.r0 r hr
    exact ⟨a, b, by dsimp only; omega, d⟩⟩
theorem grown_tr {w W W2 : World} {b : Nat} (h : w.grownBy W (some b)) (k : W.grownBy W2 (some b)) : w.grownBy W2 (some b) :=
  ⟨k.os.trans h.os, k.tape.trans h.tape, k.output.trans h.output, Nat.le_trans h.size k.size, fun i hi hn => (k.block i (by have := h.size; omega) hn).trans (h.block i hi hn)⟩
set_option maxHeartbeats 4000000 in
theorem tick_any {N : Int} (b : Nat) (A : Tb) (hA : TbOk N A) (hN : N + 1 ≤ 1000000) (w : World) (h : TAt w b A) :
    Calls Tryd.prog 12 #[tp b] w fun e w' => (∃ v, e = .returned v) ∧ TAt w' b (tickT A) ∧ w.grownBy w' (some b) := by
  have c2 := h.c2
  have f2 := h.free 2
  have k0 := hA.k0
  have hw : wrap64 (A.ticks + 1) = A.ticks + 1 := by rw [wr64] <;> omega
  have H1 : TAt (w.setCell ⟨b, 2, none⟩ (.int .i64 (A.ticks + 1))) b { A with ticks := A.ticks + 1 } := by
    have := h.set 2 (.int .i64 (A.ticks + 1))
    rwa [tb_ticks] at this
  have R := Lib.hid (advance_any b _ hA.tick hN _ H1)
  have G := Lib.hid (grownBy_set w b 2 (.int .i64 (A.ticks + 1)))
  clear H1 h hA k0
  go_enter Tryd.func12, Tryd.ntmps12
  go_wp2_with fail
  refine R.out.mono ?_
  rintro e w1 ⟨⟨v, rfl⟩, hT, hg⟩
  have HT := Lib.hid hT
  have HG := Lib.hid hg
  clear hT hg
  go_wp2
  go_end0
  exact ⟨⟨_, rfl⟩, HT.out, grown_tr G.out HG.out⟩
/-- what Put says -/
def putR (A : Tb) (zs : List SLab) (t s q : Int) : Int := if sampR zs t s q ≠ 0 then sampR zs t s q else putE A s q t
def putA (A : Tb) (zs : List SLab) (t s q : Int) : Tb := if putR A zs t s q = 0 then putT A s q t else A
theorem samp_rng {zs : List SLab} {t s q : Int} (h : sampR zs t s q = 0) : (1 ≤ s ∧ s ≤ 16) ∧ (1 ≤ q ∧ q ≤ 9007199254740992) ∧ (0 ≤ t ∧ t ≤ 4398046511104) := by
  unfold sampR at h
  by_cases h1 : checkR zs ≠ 0
  · rw [if_pos h1] at h; exact absurd h h1
  rw [if_neg h1] at h
  by_cases h2 : zs.length = 0
  · rw [if_pos h2] at h; cases h
  rw [if_neg h2] at h
  by_cases h3 : timeR t ≠ 0
  · rw [if_pos h3] at h; exact absurd h h3
  rw [if_neg h3] at h
  by_cases h4 : s < 1 ∨ 16 < s ∨ q < 1 ∨ 9007199254740992 < q
  · rw [if_pos h4] at h; cases h
  by_cases h5 : t < 0 ∨ 4398046511104 < t
  · exact absurd (show timeR t ≠ 0 by unfold timeR; rw [if_pos h5]; decide) h3
  omega
theorem putA_ok {N : Int} {A : Tb} (hA : TbOk N A) (zs : List SLab) (t s q : Int) : TbOk N (putA A zs t s q) := by
  unfold putA
  split
  · rename_i h
    unfold putR at h
    split at h
    · rename_i h1; exact absurd h h1
    · rename_i h1
      obtain ⟨a, b, c⟩ := samp_rng (by omega : sampR zs t s q = 0)
      exact put_ok hA a b c
  · exact hA
/-- what lies while Put goes -/
structure PuS (A : Tb) (b n : Nat) (x : List Value) (w u : World) : Prop where
  X : At u n x
  T : TAt u b A
  W : Below n w u
section
variable {A : Tb} {b n : Nat} {x : List Value} {w u u' : World}
theorem PuS.drew (h : PuS A b n x w u) : PuS A b n x w u.drew := ⟨h.X.drew, VAt.drew h.T, h.W.drew⟩
theorem PuS.below (h : PuS A b n x w u) (hb : Below u.heap.size u u') : PuS A b n x w u' := ⟨h.X.below hb, VAt.below h.T hb, h.W.trans (hb.mono (Nat.le_of_lt h.X.lt))⟩
end
def PutPost (b : Nat) (A : Tb) (zs : List SLab) (t s q : Int) (w : World) (e : Ending) (w' : World) : Prop :=
  e = .returned (.int .i64 (putR A zs t s q)) ∧ TAt w' b (putA A zs t s q) ∧ w.grownBy w' (some b)
set_option maxHeartbeats 8000000 in
theorem put_bad {N : Int} (b : Nat) (A : Tb) (hA : TbOk N A) (a : Option Addr) (n cap : Nat) (zs : List SLab) (hz : zs.length ≤ 100) (v t s q : Int) (w : World) (h : TAt w b A) (hI : Labs w.heap.size w (.slice a n cap) zs) (hc : sampR zs t s q ≠ 0) :
    Calls Tryd.prog 11 #[tp b, sampV (.slice a n cap) v t s q] w (PutPost b A zs t s q w) := by
  have e1 : Hid (putR A zs t s q = sampR zs t s q) := by unfold Hid putR; rw [if_pos hc]
  have e2 : Hid (putA A zs t s q = A) := by unfold Hid putA; rw [e1.out, if_neg hc]
  obtain ⟨W1, hW1⟩ : ∃ W1, W1 = w.alloc (.cells #[.slice a n cap, .int .i64 v, .int .i64 t, .int .i64 s, .int .i64 q] 36) := ⟨_, rfl⟩
  have S1 : PuS A b w.heap.size [.slice a n cap, .int .i64 v, .int .i64 t, .int .i64 s, .int .i64 q] w W1 := by
    rw [hW1]
    exact ⟨At.nwb _ _ [_, _, _, _, _] _ rfl, VAt.alloc h _, below_cells _⟩
  have C := Lib.hid (lcheck_any a n cap zs hz v t s q W1 (labs_on hI S1.W))
  unfold sampV at *
  have q1 : (sampR zs t s q != 0) = true := by simpa using hc
  have HS := Lib.hid S1
  clear S1 hI h hc hA
  generalize sampR zs t s q = c at *
  go_enter Tryd.func11, Tryd.ntmps11
  go_wp2_with fail
  rw [← hW1]
  refine C.out.mono ?_
  rintro e w2 ⟨rfl, hb2⟩
  have HS2 := Lib.hid (HS.out.below hb2)
  clear hb2 C hW1
  go_wp2
  go_ret
  exact ⟨by rw [e1.out]; rfl, by rw [e2.out]; exact HS2.out.T, grown_of HS2.out.W⟩
set_option maxHeartbeats 8000000 in
theorem put_seen {N : Int} (b : Nat) (A : Tb) (hA : TbOk N A) (a : Option Addr) (n cap : Nat) (zs : List SLab) (hz : zs.length ≤ 100) (v t s q : Int) (w : World) (h : TAt w b A) (hI : Labs w.heap.size w (.slice a n cap) zs) (hc : sampR zs t s q = 0) (hq : q ≤ (rowR A s).q) :
    Calls Tryd.prog 11 #[tp b, sampV (.slice a n cap) v t s q] w (PutPost b A zs t s q w) := by
  have e1 : Hid (putR A zs t s q = 6) := by unfold Hid putR putE; rw [if_neg (by omega), if_pos hq]
  have e2 : Hid (putA A zs t s q = A) := by unfold Hid putA; rw [e1.out, if_neg (by omega)]
  obtain ⟨W1, hW1⟩ : ∃ W1, W1 = w.alloc (.cells #[.slice a n cap, .int .i64 v, .int .i64 t, .int .i64 s, .int .i64 q] 36) := ⟨_, rfl⟩
  have S1 : PuS A b w.heap.size [.slice a n cap, .int .i64 v, .int .i64 t, .int .i64 s, .int .i64 q] w W1 := by
    rw [hW1]
    exact ⟨At.nwb _ _ [_, _, _, _, _] _ rfl, VAt.alloc h _, below_cells _⟩
  have C := Lib.hid (lcheck_any a n cap zs hz v t s q W1 (labs_on hI S1.W))
  rw [hc] at C
  unfold sampV at *
  have SN := Lib.hid (fun u (hu : TAt u b A) => seen_any b A s q u hA hu)
  have dq : decide (q ≤ (rowR A s).q) = true := by simpa using hq
  rw [dq] at SN
  have HS := Lib.hid S1
  clear S1 hI h hc hA hq dq
  go_enter Tryd.func11, Tryd.ntmps11
  go_wp2_with fail
  rw [← hW1]
  refine C.out.mono ?_
  rintro e w2 ⟨rfl, hb2⟩
  have S2 := HS.out.below hb2
  have a5 := S2.X.f5
  have HS2 := Lib.hid S2
  clear hb2 C hW1 S2
  go_wp2_with fail
  refine (SN.out _ HS2.out.T).mono ?_
  rintro e w3 ⟨rfl, hb3⟩
  have HS3 := Lib.hid (HS2.out.below hb3)
  clear hb3 a5
  go_wp2
  go_ret
  exact ⟨by rw [e1.out]; rfl, by rw [e2.out]; exact HS3.out.T, grown_of HS3.out.W⟩
set_option maxHeartbeats 8000000 in
theorem put_late {N : Int} (b : Nat) (A : Tb) (hA : TbOk N A) (a : Option Addr) (n cap : Nat) (zs : List SLab) (hz : zs.length ≤ 100) (v t s q : Int) (w : World) (h : TAt w b A) (hI : Labs w.heap.size w (.slice a n cap) zs) (hc : sampR zs t s q = 0) (hq : ¬ q ≤ (rowR A s).q) (ht : t < A.front) :
    Calls Tryd.prog 11 #[tp b, sampV (.slice a n cap) v t s q] w (PutPost b A zs t s q w) := by
  have e1 : Hid (putR A zs t s q = 9) := by unfold Hid putR putE; rw [if_neg (by omega), if_neg hq, if_pos ht]
  have e2 : Hid (putA A zs t s q = A) := by unfold Hid putA; rw [e1.out, if_neg (by omega)]
  obtain ⟨W1, hW1⟩ : ∃ W1, W1 = w.alloc (.cells #[.slice a n cap, .int .i64 v, .int .i64 t, .int .i64 s, .int .i64 q] 36) := ⟨_, rfl⟩
  have S1 : PuS A b w.heap.size [.slice a n cap, .int .i64 v, .int .i64 t, .int .i64 s, .int .i64 q] w W1 := by
    rw [hW1]
    exact ⟨At.nwb _ _ [_, _, _, _, _] _ rfl, VAt.alloc h _, below_cells _⟩
  have C := Lib.hid (lcheck_any a n cap zs hz v t s q W1 (labs_on hI S1.W))
  rw [hc] at C
  unfold sampV at *
  have SN := Lib.hid (fun u (hu : TAt u b A) => seen_any b A s q u hA hu)
  have dq : decide (q ≤ (rowR A s).q) = false := by simpa using hq
  rw [dq] at SN
  have HS := Lib.hid S1
  have dt : decide (t < A.front) = true := by simpa using ht
  clear S1 hI h hc hA hq dq ht
  go_enter Tryd.func11, Tryd.ntmps11
  go_wp2_with fail
  rw [← hW1]
  refine C.out.mono ?_
  rintro e w2 ⟨rfl, hb2⟩
  have S2 := HS.out.below hb2
  have a5 := S2.X.f5
  have HS2 := Lib.hid S2
  clear hb2 C hW1 S2
  go_wp2_with fail
  refine (SN.out _ HS2.out.T).mono ?_
  rintro e w3 ⟨rfl, hb3⟩
  have S3 := (HS2.out.below hb3).drew
  clear hb3 a5 SN HS HS2
  go_wp2_with fail
  refine wp_region_held_drew (S := PuS A b w.heap.size [.slice a n cap, .int .i64 v, .int .i64 t, .int .i64 s, .int .i64 q] w) (by kernel_rfl) S3 (fun hS => ?_)
  generalize w3.drew = w4 at *
  clear S3
  refine tkH 0 hS ?_
  refine tkC 1 hS (fun u h => h.X.cell 2 _ rfl) ?_
  refine tkH 2 hS ?_
  refine tkH 3 hS ?_
  refine tkH 4 hS ?_
  refine tkC 5 hS (fun u h => h.T.c3) ?_
  refine tkH 6 hS ?_
  refine wpAnyH_done (by kernel_rfl) ?_ _
  have HE := Lib.hid hS
  clear hS
  go_wp2
  go_ret
  exact ⟨by rw [e1.out]; rfl, by rw [e2.out]; exact HE.out.T, grown_of HE.out.W⟩
theorem row_at (A : Tb) (hl : A.rows.length = 16) (i : Nat) (hi : i < 16) : rowR A ((i : Int) + 1) = nthR A i ∧ A.rows[i]? = some (nthR A i) := by
  refine ⟨?_, nth_some (by omega)⟩
  unfold rowR; rw [if_neg (by omega)]; congr 1; omega
set_option maxHeartbeats 8000000 in
theorem put_good {N : Int} (b : Nat) (A : Tb) (hA : TbOk N A) (hN : N ≤ 1000000) (a : Option Addr) (n cap : Nat) (zs : List SLab) (hz : zs.length ≤ 100) (v t s q : Int) (w : World) (h : TAt w b A) (hI : Labs w.heap.size w (.slice a n cap) zs) (hc : sampR zs t s q = 0) (hq : ¬ q ≤ (rowR A s).q) (ht : ¬ t < A.front) :
    Calls Tryd.prog 11 #[tp b, sampV (.slice a n cap) v t s q] w (PutPost b A zs t s q w) := by
  have e1 : Hid (putR A zs t s q = 0) := by unfold Hid putR putE; rw [if_neg (by omega), if_neg hq, if_neg ht]
  obtain ⟨⟨hs1, hs2⟩, hq1, ht1⟩ := samp_rng hc
  have hbl : b < w.heap.size := VAt.lt h
  obtain ⟨i, hi, rfl⟩ : ∃ i : Nat, i < 16 ∧ s = (i : Int) + 1 := ⟨(s - 1).toNat, by omega, by omega⟩
  obtain ⟨er, hr⟩ := row_at A hA.len i hi
  have e2 : Hid (putA A zs t ((i : Int) + 1) q = advT { A with rows := A.rows.set i ⟨q, max (nthR A i).t t, A.ticks⟩ }) := by
    unfold Hid putA putT
    rw [e1.out, if_pos rfl, er, show ((i : Int) + 1 - 1).toNat = i by omega]
  have hA2 : TbOk N { A with rows := A.rows.set i ⟨q, max (nthR A i).t t, A.ticks⟩ } := by
    refine ⟨by dsimp only; rw [List.length_set]; exact hA.len, hA.l0, hA.i0, hA.k0, hA.f0, fun r hr2 => ?_⟩
    rcases List.mem_or_eq_of_mem_set hr2 with hr2 | rfl
    · exact hA.r0 r hr2
    · have := hA.r0 _ (List.mem_of_getElem? hr)
      have := hA.k0
      dsimp only
      omega
  obtain ⟨W1, hW1⟩ : ∃ W1, W1 = w.alloc (.cells #[.slice a n cap, .int .i64 v, .int .i64 t, .int .i64 ((i : Int) + 1), .int .i64 q] 36) := ⟨_, rfl⟩
  have S1 : PuS A b w.heap.size [.slice a n cap, .int .i64 v, .int .i64 t, .int .i64 ((i : Int) + 1), .int .i64 q] w W1 := by
    rw [hW1]
    exact ⟨At.nwb _ _ [_, _, _, _, _] _ rfl, VAt.alloc h _, below_cells _⟩
  have C := Lib.hid (lcheck_any a n cap zs hz v t ((i : Int) + 1) q W1 (labs_on hI S1.W))
  rw [hc] at C
  unfold sampV at *
  have SN := Lib.hid (fun u (hu : TAt u b A) => seen_any b A ((i : Int) + 1) q u hA hu)
  have dq : decide (q ≤ (rowR A ((i : Int) + 1)).q) = false := by simpa using hq
  rw [dq] at SN
  have RW := Lib.hid (fun u (hu : TAt u b A) => row_any b A ((i : Int) + 1) u hA hu)
  rw [er] at RW
  have AD := Lib.hid (fun u (hu : TAt u b _) => advance_any b _ hA2 hN u hu)
  have HR := Lib.hid hr
  have HS := Lib.hid S1
  have dt : decide (t < A.front) = false := by simpa using ht
  have hwi : IntKind.i64.wrap ((i : Int) + 1 - 1) = (i : Int) := by rw [IntKind.wrap_i64]; omega
  have hwj : wrap64 ((i : Int) + 1 - 1) = (i : Int) := by rw [wr64] <;> omega
  have hwk : IntKind.i64.wrap (i : Int) = (i : Int) := by rw [IntKind.wrap_i64]; omega
  have k2 : (0 : Int) ≤ (i : Int) := by omega
  have k3 : (i : Int) < 16 := by omega
  clear S1 hI h hc hA hq dq ht hq1 ht1 hA2 hr er hs1 hs2
  generalize nthR A i = r at *
  unfold rowV at RW
  go_enter Tryd.func11, Tryd.ntmps11
  go_wp2_with fail
  rw [← hW1]
  refine C.out.mono ?_
  rintro e w2 ⟨rfl, hb2⟩
  have S2 := HS.out.below hb2
  have a5 := S2.X.f5
  have HS2 := Lib.hid S2
  clear hb2 C hW1 S2
  go_wp2_with fail
  refine (SN.out _ HS2.out.T).mono ?_
  rintro e w3 ⟨rfl, hb3⟩
  have S3 := (HS2.out.below hb3).drew
  clear hb3 a5 SN HS HS2
  go_wp2_with fail
  refine wp_region_held_drew (S := PuS A b w.heap.size [.slice a n cap, .int .i64 v, .int .i64 t, .int .i64 ((i : Int) + 1), .int .i64 q] w) (by kernel_rfl) S3 (fun hS => ?_)
  generalize w3.drew = w4 at *
  clear S3
  refine tkH 0 hS ?_
  refine tkC 1 hS (fun u h => h.X.cell 2 _ rfl) ?_
  refine tkH 2 hS ?_
  refine tkH 3 hS ?_
  refine tkH 4 hS ?_
  refine tkC 5 hS (fun u h => h.T.c3) ?_
  refine tkH 6 hS ?_
  refine wpAnyH_done (by kernel_rfl) ?_ _
  have S4 := hS.drew
  clear hS
  go_wp2_with fail
  refine wp_region_held_drew (S := PuS A b w.heap.size [.slice a n cap, .int .i64 v, .int .i64 t, .int .i64 ((i : Int) + 1), .int .i64 q] w) (by kernel_rfl) S4 (fun hS => ?_)
  generalize w4.drew = w5 at *
  clear S4 dt
  refine tkH 0 hS ?_
  refine tkH 1 hS ?_
  refine tkC 2 hS (fun u h => h.X.cell 3 _ rfl) ?_
  refine tkH 5 hS ?_
  refine tkC 6 hS (fun u h => h.X.cell 2 _ rfl) ?_
  refine anyH_1 3 (fun K hK => ?_)
  go_simp
  go_at_call 28
  refine (RW.out _ hS.T).mono ?_
  rintro e w6 ⟨rfl, hb6⟩
  dsimp only
  refine hK.out _ _ (hS.below hb6) (fun hS => ?_)
  clear hK K hb6 RW
  have F1 := fld1 r.q r.t r.k
  refine tkC 4 (v := .int .i64 r.t) hS (fun u h => h.X.lt) ?_
  refine tkH 7 (v := .int .i64 (max r.t t)) hS ?_
  refine tkH 8 hS ?_
  refine wpAnyH_done (by kernel_rfl) ?_ _
  obtain ⟨t0, t1, t2⟩ := tb_at HR.out
  have u0 := VAt.cell (VAt.drew hS.T) t0
  have u1 := VAt.cell (VAt.drew hS.T) t1
  have u2 := VAt.cell (VAt.drew hS.T) t2
  have f0 := VAt.free (VAt.drew hS.T) (4 + i * 3)
  have f1 := VAt.free (VAt.drew hS.T) (4 + i * 3 + 1)
  have f2 := VAt.free (VAt.drew hS.T) (4 + i * 3 + 2)
  obtain ⟨W7, hW7⟩ : ∃ W7, W7 = ((w6.drew.setCell ⟨b, 4 + i * 3, none⟩ (.int .i64 q)).setCell ⟨b, 4 + i * 3 + 1, none⟩ (.int .i64 (max r.t t))).setCell ⟨b, 4 + i * 3 + 2, none⟩ (.int .i64 A.ticks) := ⟨_, rfl⟩
  have hil : i < A.rows.length := (List.getElem?_eq_some_iff.1 HR.out).1
  have T7 : TAt W7 b { A with rows := A.rows.set i ⟨q, max r.t t, A.ticks⟩ } := by
    have k0 := (VAt.drew hS.T).set (4 + i * 3 + 0) (.int .i64 q)
    rw [tb_set (r' := ⟨q, r.t, r.k⟩) HR.out (by omega) rfl] at k0
    have k1 := k0.set (4 + i * 3 + 1) (.int .i64 (max r.t t))
    rw [tb_set (r := ⟨q, r.t, r.k⟩) (r' := ⟨q, max r.t t, r.k⟩) (by dsimp only; rw [List.getElem?_set_self hil]) (by omega) rfl] at k1
    have k2 := k1.set (4 + i * 3 + 2) (.int .i64 A.ticks)
    rw [tb_set (r := ⟨q, max r.t t, r.k⟩) (r' := ⟨q, max r.t t, A.ticks⟩) (by dsimp only; rw [List.getElem?_set_self (by rw [List.length_set]; exact hil)]) (by omega) rfl] at k2
    dsimp only at k2
    rw [List.set_set, List.set_set] at k2
    rw [hW7]
    exact k2
  have G7 : w.grownBy W7 (some b) := by
    rw [hW7]
    exact grown_tr (grown_tr (grown_tr (grown_of hS.W.drew) (grownBy_set _ _ _ _)) (grownBy_set _ _ _ _)) (grownBy_set _ _ _ _)
  have X7 : At W7 w.heap.size [.slice a n cap, .int .i64 v, .int .i64 t, .int .i64 ((i : Int) + 1), .int .i64 q] := by
    rw [hW7]
    exact ((hS.X.drew.far (by omega) _).far (by omega) _).far (by omega) _
  have X6 := hS.X.drew
  have C6 : w6.drew.cell? ⟨b, 2, none⟩ = some (.int .i64 A.ticks) := TAt.c2 (VAt.drew hS.T)
  have C7 := TAt.c2 T7
  have HT7 := Lib.hid T7
  have HG7 := Lib.hid G7
  clear hS F1 t0 t1 t2 T7 G7 hil
  go_wp2_with fail
  refine wp_region_held_drew (S := fun u => At u w.heap.size [.slice a n cap, .int .i64 v, .int .i64 t, .int .i64 ((i : Int) + 1), .int .i64 q] ∧ u.cell? ⟨b, 2, none⟩ = some (.int .i64 A.ticks)) (by kernel_rfl) ⟨X6, C6⟩ (fun hS => ?_)
  generalize w6.drew = w7 at *
  refine tkH 0 hS ?_
  refine tkH 1 hS ?_
  refine tkC 2 hS (fun u h => h.1.cell 3 _ rfl) ?_
  refine tkH 3 (v := .int .i64 (i : Int)) hS ?_
  refine tkH 4 hS ?_
  refine tkC 5 hS (fun u h => h.1.cell 4 _ rfl) ?_
  refine tkH 6 hS ?_
  refine tkH 7 hS ?_
  refine tkH 8 hS ?_
  refine tkH 9 hS ?_
  refine tkC 10 hS (fun u h => h.2) ?_
  refine tkH 11 (v := .agg #[.int .i64 q, .int .i64 (max r.t t), .int .i64 A.ticks]) hS ?_
  refine tkH 12 hS ?_
  refine tkH 13 hS ?_
  refine tkH 14 (v := .pointer (some ⟨b, 4 + i * 3, none⟩)) hS ?_
  refine anyH_1 15 (fun K hK => ?_)
  go_simp
  rw [← hW7]
  refine hK.out _ _ ⟨X7, C7⟩ (fun hS => ?_)
  refine wpAnyH_done (by kernel_rfl) ?_ _
  clear hK K hS u0 u1 u2 f0 f1 f2 X6 C6 X7 C7 hW7
  go_wp2_with fail
  refine (AD.out _ HT7.out).mono ?_
  rintro e w8 ⟨⟨v8, rfl⟩, hT8, hg8⟩
  have HT8 := Lib.hid hT8
  have HG8 := Lib.hid hg8
  clear hT8 hg8
  go_wp2
  go_ret
  exact ⟨by rw [e1.out]; rfl, by rw [e2.out]; exact HT8.out, grown_tr HG7.out HG8.out⟩
theorem put_any {N : Int} (b : Nat) (A : Tb) (hA : TbOk N A) (hN : N ≤ 1000000) (a : Option Addr) (n cap : Nat) (zs : List SLab) (hz : zs.length ≤ 100) (v t s q : Int) (w : World) (h : TAt w b A) (hI : Labs w.heap.size w (.slice a n cap) zs) :
    Calls Tryd.prog 11 #[tp b, sampV (.slice a n cap) v t s q] w (PutPost b A zs t s q w) := by
  by_cases hc : sampR zs t s q = 0
  · by_cases hq : q ≤ (rowR A s).q
    · exact put_seen b A hA a n cap zs hz v t s q w h hI hc hq
    · by_cases ht : t < A.front
      · exact put_late b A hA a n cap zs hz v t s q w h hI hc hq ht
      · exact put_good b A hA hN a n cap zs hz v t s q w h hI hc hq ht
  · exact put_bad b A hA a n cap zs hz v t s q w h hI hc
end Go.Proofs.YtoodcaonlfeleaaDoor
