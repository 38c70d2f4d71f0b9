/- The document's Sources: Put of a sample that is taken. -/
import Derived.Test.YtoodcaonlfeleaaDoorSh
namespace Go.Proofs.YtoodcaonlfeleaaDoor
open Go Go.Proofs Go.RowKit Go.Shelf
set_option maxRecDepth 100000
attribute [local go_sem] cell_set Oper.semAt_some
theorem samp_rng15 {zs : List SLab} {t s q : Int} (h : sampR zs t s q = 0) : (1 ≤ s ∧ s ≤ 16) ∧ (1 ≤ q ∧ q ≤ 9007199254740992) ∧ (0 ≤ t ∧ t ≤ 4398046511104) := by
  unfold sampR at h
  by_cases h1 : checkR zs ≠ 0
  · rw [if_pos h1] at h; exact absurd h h1
  rw [if_neg h1] at h
  by_cases h2 : zs.length = 0
  · rw [if_pos h2] at h; cases h
  rw [if_neg h2] at h
  by_cases h3 : timeR t ≠ 0
  · rw [if_pos h3] at h; exact absurd h h3
  rw [if_neg h3] at h
  by_cases h4 : s < 1 ∨ 16 < s ∨ q < 1 ∨ 9007199254740992 < q
  · rw [if_pos h4] at h; cases h
  by_cases h5 : t < 0 ∨ 4398046511104 < t
  · exact absurd (show timeR t ≠ 0 by unfold timeR; rw [if_pos h5]; decide) h3
  omega
theorem rowS4 : RowT 29 4 := ⟨⟨_, Tryd.underlying29, rfl⟩, by kernel_rfl⟩
theorem st_m {ops : Array Oper} {rest : List Oper} {o : Oper} {a : Act} {w : World} {Q : Exit → Act → World → Prop} {U : TypeId} {x y : Operand} {b n off : Nat} {g : List Value} (R : RowT U n) (ht : w.there b off n) (hg : RC n g) (hgd : o.guard = none) (ho : o.op = .store U x y) (hx : a.eval x = .pointer (some ⟨b, off, none⟩)) (hy : a.eval y = .agg g.toArray)
    (k : wpList Tryd.prog ops Q rest (a.put o.dst undef) (w.setCells b off g)) : wpList Tryd.prog ops Q (o :: rest) a w :=
  wpList_store_mid hgd U x y ho b off g.toArray hx hy (by rw [List.size_toArray, hg.len]; exact ht) (by rw [List.size_toArray, hg.len]; exact R.info) (rc_one hg) k
theorem put_there {S : Sr} {n i : Nat} {w3 : World} {r : R4} (h : SAt w3 n S) (hr : S.rest[i]? = some r) (o : Obj) : (w3.alloc o).there n (2 + (i + 1) * 4) 4 := fun j hj => by
  have hA : SAt (w3.alloc o) n S := VAt.alloc h o
  obtain ⟨c0, c1, c2, c3⟩ := sr_cells hA hr
  refine ⟨?_, VAt.free hA _⟩
  rcases j with _ | _ | _ | _ | j
  · rw [Nat.add_zero, c0]; rfl
  · rw [c1]; rfl
  · rw [c2]; rfl
  · rw [c3]; rfl
  · omega
theorem rc4 (q x : Int) : RC 4 [.int .i64 q, .int .i64 x, .bool true, .int .i64 0] := ⟨rfl, fun v hv => by
  simp only [List.mem_cons, List.not_mem_nil, or_false] at hv
  rcases hv with rfl | rfl | rfl | rfl <;> rfl⟩
theorem put_cells {S Z : Sr} {n i : Nat} {X : List Value} {w w3 W4 : World} {r : R4} (h : PvS S Z n X w w3) (hr : S.rest[i]? = some r) (q x : Int) (o : Obj)
    (e : W4 = (w3.alloc o).setCells n (2 + (i + 1) * 4) [.int .i64 q, .int .i64 x, .bool true, .int .i64 0]) :
    SAt W4 n { S with rest := S.rest.set i ⟨q, x, true, 0⟩ } ∧ SAt W4 (n + 1 + 1) Z ∧ Below n w W4 := by
  have hil : i < S.rest.length := (List.getElem?_eq_some_iff.1 hr).1
  obtain rfl : W4 = (((((w3.alloc o).setCell ⟨n, 2 + (i + 1) * 4, none⟩ (.int .i64 q)).setCell ⟨n, 2 + (i + 1) * 4 + 1, none⟩ (.int .i64 x)).setCell ⟨n, 2 + (i + 1) * 4 + 2, none⟩ (.bool true)).setCell ⟨n, 2 + (i + 1) * 4 + 3, none⟩ (.int .i64 0)) := e
  refine ⟨?_, ?_, ?_⟩
  · have h0 := ((VAt.alloc h.T o).set (6 + i * 4 + 0) (.int .i64 q))
    rw [sr_set (r' := ⟨q, r.t, r.p, r.a⟩) hr (by omega) rfl] at h0
    have h1 := h0.set (6 + i * 4 + 1) (.int .i64 x)
    rw [sr_set (r := ⟨q, r.t, r.p, r.a⟩) (r' := ⟨q, x, r.p, r.a⟩) (by dsimp only; rw [List.getElem?_set_self hil]) (by omega) rfl] at h1
    have h2 := h1.set (6 + i * 4 + 2) (.bool true)
    rw [sr_set (r := ⟨q, x, r.p, r.a⟩) (r' := ⟨q, x, true, r.a⟩) (by dsimp only; rw [List.getElem?_set_self (by rw [List.length_set]; exact hil)]) (by omega) rfl] at h2
    have h3 := h2.set (6 + i * 4 + 3) (.int .i64 0)
    rw [sr_set (r := ⟨q, x, true, r.a⟩) (r' := ⟨q, x, true, 0⟩) (by dsimp only; rw [List.getElem?_set_self (by rw [List.length_set, List.length_set]; exact hil)]) (by omega) rfl] at h3
    dsimp only at h3
    rw [List.set_set, List.set_set, List.set_set] at h3
    rw [show 2 + (i + 1) * 4 = 6 + i * 4 by omega]
    exact h3
  · exact ((((VAt.alloc h.Z o).far (by omega) _).far (by omega) _).far (by omega) _).far (by omega) _
  · have hn : n ≤ w3.heap.size := Nat.le_of_lt (VAt.lt h.T)
    exact ((((h.W.alloc hn o).setCell (Nat.le_refl _) _).setCell (Nat.le_refl _) _).setCell (Nat.le_refl _) _).setCell (Nat.le_refl _) _
set_option maxHeartbeats 8000000 in
theorem rput_good (S : Sr) (hS : SrOk S) (a : Option Addr) (n cap : Nat) (zs : List SLab) (hz0 : zs.length ≤ 100) (v t s q : Int) (w : World) (hI : Labs w.heap.size w (.slice a n cap) zs) (hc : sampR zs t s q = 0) (hq : ¬ q ≤ seqS S s) (ht : ¬ t < S.f) :
    Calls Tryd.prog 9 #[.agg (srC S).toArray, sampV (.slice a n cap) v t s q] w (PutPostS S zs t s q w) := by
  have e1 : Hid (putN S zs t s q = 0) := by unfold Hid putN; rw [if_neg (by omega), if_neg hq, if_neg ht]
  obtain ⟨hs12, hq12, ht12⟩ := samp_rng15 hc
  obtain ⟨i, hi, rfl⟩ : ∃ i : Nat, i < 16 ∧ s = (i : Int) + 1 := ⟨(s - 1).toNat, by omega, by omega⟩
  have hr : S.rest[i]? = some (nthS S i) := by unfold nthS; rw [List.getD_eq_getElem?_getD, List.getElem?_eq_getElem (by rw [hS.len]; exact hi)]; rfl
  have e2 : Hid (putB S zs t ((i : Int) + 1) q = putS S i q t) := by
    unfold Hid putB
    rw [e1.out, if_pos rfl, show ((i : Int) + 1 - 1).toNat = i by omega]
  have hOk : SrOk { S with rest := S.rest.set i (newR (nthS S i) q t) } := by
    refine ⟨by dsimp only; rw [List.length_set]; exact hS.len, hS.l0, hS.i0, hS.f0, fun r h => ?_⟩
    rcases List.mem_or_eq_of_mem_set h with h | rfl
    · exact hS.r0 r h
    · have := hS.r0 _ (List.mem_of_getElem? hr)
      unfold newR
      dsimp only
      split <;> omega
  have HF := Lib.hid (fun u => rfront_any _ hOk u)
  have rcN : RC 71 (srC { S with rest := S.rest.set i (newR (nthS S i) q t) }) := sr_rc hOk.len
  have rcF : RC 71 (srC (putS S i q t)) := sr_rc (by unfold putS; rw [front_len]; exact hOk.len)
  have eF : Hid (frontS { S with rest := S.rest.set i (newR (nthS S i) q t) } = putS S i q t) := by unfold Hid putS; rfl
  rw [eF.out] at HF
  have h70 := sr_f hS.len
  have HR := Lib.hid hr
  have HL := Lib.hid hS.len
  have rc := sr_rc hS.len
  have hz := zeroSrc
  have rz := zero_rc
  have hzs : (srC zeroS).toArray.size = 71 := by rw [List.size_toArray, rz.len]
  have hzn : (srC zeroS).toArray ≠ #[] := fun e => by rw [e] at hzs; cases hzs
  obtain ⟨W1, hW1⟩ : ∃ W1, W1 = ((w.alloc (.cells (srC S).toArray 32)).alloc (.cells #[.slice a n cap, .int .i64 v, .int .i64 t, .int .i64 ((i : Int) + 1), .int .i64 q] 44)).alloc (.cells (srC zeroS).toArray 32) := ⟨_, rfl⟩
  have S1 : PvS S zeroS w.heap.size [.slice a n cap, .int .i64 v, .int .i64 t, .int .i64 ((i : Int) + 1), .int .i64 q] w W1 := by
    rw [hW1]
    exact PvS.start w S zeroS [.slice a n cap, .int .i64 v, .int .i64 t, .int .i64 ((i : Int) + 1), .int .i64 q]
  have C := Lib.hid (rsamp_any a n cap zs hz0 v t ((i : Int) + 1) q W1 (labs_on hI S1.W))
  unfold sampV at *
  have HS := Lib.hid S1
  rw [hc] at C
  have SN := Lib.hid (fun u => rseen_any S hS ((i : Int) + 1) q u)
  have dq : decide (q ≤ seqS S ((i : Int) + 1)) = false := by simpa using hq
  rw [dq] at SN
  have HTt := Lib.hid ht
  clear S1 hI hc hq dq hs12 hq12 ht12 hr hOk ht
  have k2 : (0 : Int) ≤ (i : Int) + 1 := by omega
  have k3 : (i : Int) + 1 < 17 := by omega
  have k4 : ((i : Int) + 1).toNat = i + 1 := by omega
  have dt : decide (t < S.f) = false := by simpa using HTt.out
  go_enter Tryd.func9, Tryd.ntmps9
  go_wp2_with fail
  rw [← hW1]
  refine C.out.mono ?_
  rintro e w2 ⟨rfl, hb2⟩
  have S2 := HS.out.below hb2
  have a5 := S2.X.f5
  have hT2 := S2.T
  have hZ2 := S2.Z
  have HS2 := Lib.hid S2
  clear hb2 C hW1 S2 HS hz hzs hzn
  go_wp2_with (first | (refine ld_v rowSrc rc hT2 rfl rfl rfl ?_) | fail)
  refine (SN.out _).mono ?_
  rintro e w3 ⟨rfl, hb3⟩
  have S3 := HS2.out.below hb3
  have b5 := S3.X.f5
  have cf := VAt.cell S3.T h70
  obtain ⟨c0, c1, c2, c3⟩ := sr_cells S3.T HR.out
  have f0 := VAt.free S3.T (2 + (i + 1) * 4)
  have f1 := VAt.free S3.T (2 + (i + 1) * 4 + 1)
  have f2 := VAt.free S3.T (2 + (i + 1) * 4 + 2)
  have f3 := VAt.free S3.T (2 + (i + 1) * 4 + 3)
  have hwl := VAt.lt S3.Z
  have HS3 := Lib.hid S3
  clear hb3 a5 hT2 hZ2 S3 h70 SN HS2
  generalize nthS S i = r at *
  have E1 := e1
  by_cases hp : r.p = true
  · rw [hp] at c2
    by_cases hlt : r.t < t
    · have dl : decide (r.t < t) = true := by simpa using hlt
      obtain ⟨W4, hW4⟩ : ∃ W4, W4 = (w3.alloc (.cells #[.int .i64 q, .int .i64 t, .bool true, .int .i64 0] 29)).setCells w.heap.size (2 + (i + 1) * 4) [.int .i64 q, .int .i64 t, .bool true, .int .i64 0] := ⟨_, rfl⟩
      obtain ⟨hT4, hZ4, hB4⟩ := put_cells HS3.out HR.out q t _ hW4
      have HTH := put_there HS3.out.T HR.out (.cells #[.int .i64 q, .int .i64 t, .bool true, .int .i64 0] 29)
      have HG4 := rc4 q t
      have eN : newR r q t = ⟨q, t, true, 0⟩ := by unfold newR; rw [if_neg (fun h => h.2 hlt)]
      rw [eN] at rcN HF
      have HB4 := Lib.hid hB4
      have HZ4 := Lib.hid hZ4
      clear hB4 hZ4 eN eF e1 HL HTt
      clear hlt
      go_wp2_with (first | (refine st_m rowS4 HTH HG4 rfl rfl rfl rfl ?_; rw [← hW4]) | (refine ld_v rowSrc rcN hT4 rfl rfl rfl ?_) | fail)
      refine (HF.out _).mono ?_
      rintro e w5 ⟨rfl, hb5⟩
      rw [← hW4] at hb5
      have hZ5 : SAt w5 (w.heap.size + 1 + 1) zeroS := VAt.below HZ4.out hb5
      have HB5 := Lib.hid (HB4.out.trans (hb5.mono (by have := HB4.out.size; omega)))
      clear hb5 hT4 HZ4 HF HTH HG4 hW4 c0 c1 c2 c3 f0 f1 f2 f3 b5 cf
      go_wp2_with (first | (refine st_v rowSrc rz rcF hZ5 rfl rfl rfl rfl ?_) | fail)
      refine bodyPost_ret (res_vt (p := 4) (q := 5) rfl rfl rfl rowSrc rcF (hZ5.row _)) rfl ?_
      exact ⟨by rw [E1.out, e2.out]; rfl, below_row HB5.out (by omega) _⟩
    · have dl : decide (r.t < t) = false := by simpa using hlt
      obtain ⟨W4, hW4⟩ : ∃ W4, W4 = (w3.alloc (.cells #[.int .i64 q, .int .i64 r.t, .bool true, .int .i64 0] 29)).setCells w.heap.size (2 + (i + 1) * 4) [.int .i64 q, .int .i64 r.t, .bool true, .int .i64 0] := ⟨_, rfl⟩
      obtain ⟨hT4, hZ4, hB4⟩ := put_cells HS3.out HR.out q r.t _ hW4
      have HTH := put_there HS3.out.T HR.out (.cells #[.int .i64 q, .int .i64 r.t, .bool true, .int .i64 0] 29)
      have HG4 := rc4 q r.t
      have eN : newR r q t = ⟨q, r.t, true, 0⟩ := by unfold newR; rw [if_pos ⟨hp, hlt⟩]
      rw [eN] at rcN HF
      have HB4 := Lib.hid hB4
      have HZ4 := Lib.hid hZ4
      clear hB4 hZ4 eN eF e1 HL HTt
      clear hlt
      go_wp2_with (first | (refine st_m rowS4 HTH HG4 rfl rfl rfl rfl ?_; rw [← hW4]) | (refine ld_v rowSrc rcN hT4 rfl rfl rfl ?_) | fail)
      refine (HF.out _).mono ?_
      rintro e w5 ⟨rfl, hb5⟩
      rw [← hW4] at hb5
      have hZ5 : SAt w5 (w.heap.size + 1 + 1) zeroS := VAt.below HZ4.out hb5
      have HB5 := Lib.hid (HB4.out.trans (hb5.mono (by have := HB4.out.size; omega)))
      clear hb5 hT4 HZ4 HF HTH HG4 hW4 c0 c1 c2 c3 f0 f1 f2 f3 b5 cf
      go_wp2_with (first | (refine st_v rowSrc rz rcF hZ5 rfl rfl rfl rfl ?_) | fail)
      refine bodyPost_ret (res_vt (p := 4) (q := 5) rfl rfl rfl rowSrc rcF (hZ5.row _)) rfl ?_
      exact ⟨by rw [E1.out, e2.out]; rfl, below_row HB5.out (by omega) _⟩
  · have hp' : r.p = false := by simpa using hp
    rw [hp'] at c2
    obtain ⟨W4, hW4⟩ : ∃ W4, W4 = (w3.alloc (.cells #[.int .i64 q, .int .i64 t, .bool true, .int .i64 0] 29)).setCells w.heap.size (2 + (i + 1) * 4) [.int .i64 q, .int .i64 t, .bool true, .int .i64 0] := ⟨_, rfl⟩
    obtain ⟨hT4, hZ4, hB4⟩ := put_cells HS3.out HR.out q t _ hW4
    have HTH := put_there HS3.out.T HR.out (.cells #[.int .i64 q, .int .i64 t, .bool true, .int .i64 0] 29)
    have HG4 := rc4 q t
    have eN : newR r q t = ⟨q, t, true, 0⟩ := by unfold newR; rw [if_neg (fun h => hp h.1)]
    rw [eN] at rcN HF
    have HB4 := Lib.hid hB4
    have HZ4 := Lib.hid hZ4
    clear hB4 hZ4 eN eF e1 HL HTt
    go_wp2_with (first | (refine st_m rowS4 HTH HG4 rfl rfl rfl rfl ?_; rw [← hW4]) | (refine ld_v rowSrc rcN hT4 rfl rfl rfl ?_) | fail)
    refine (HF.out _).mono ?_
    rintro e w5 ⟨rfl, hb5⟩
    rw [← hW4] at hb5
    have hZ5 : SAt w5 (w.heap.size + 1 + 1) zeroS := VAt.below HZ4.out hb5
    have HB5 := Lib.hid (HB4.out.trans (hb5.mono (by have := HB4.out.size; omega)))
    clear hb5 hT4 HZ4 HF HTH HG4 hW4 c0 c1 c2 c3 f0 f1 f2 f3 b5 cf
    go_wp2_with (first | (refine st_v rowSrc rz rcF hZ5 rfl rfl rfl rfl ?_) | fail)
    refine bodyPost_ret (res_vt (p := 4) (q := 5) rfl rfl rfl rowSrc rcF (hZ5.row _)) rfl ?_
    exact ⟨by rw [E1.out, e2.out]; rfl, below_row HB5.out (by omega) _⟩
theorem rput_any (S : Sr) (hS : SrOk S) (a : Option Addr) (n cap : Nat) (zs : List SLab) (hz0 : zs.length ≤ 100) (v t s q : Int) (w : World) (hI : Labs w.heap.size w (.slice a n cap) zs) :
    Calls Tryd.prog 9 #[.agg (srC S).toArray, sampV (.slice a n cap) v t s q] w (PutPostS S zs t s q w) := by
  by_cases hc : sampR zs t s q = 0
  · by_cases hq : q ≤ seqS S s
    · exact rput_seen S hS a n cap zs hz0 v t s q w hI hc hq
    · by_cases ht : t < S.f
      · exact rput_late S hS a n cap zs hz0 v t s q w hI hc hq ht
      · exact rput_good S hS a n cap zs hz0 v t s q w hI hc hq ht
  · exact rput_bad S hS a n cap zs hz0 v t s q w hI hc
end Go.Proofs.YtoodcaonlfeleaaDoor
