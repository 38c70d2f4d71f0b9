/- source.live: the iterator's contract. -/
import Derived.Test.YtoodcaonlfeleaaDoorTu
import Derived.Test.YtoodcaonlfeleaaDoorRangeS
import Derived.Shelf.RegionOpen
import Derived.TacticsInMore
import Derived.LoopNIn
import Derived.LoopIn
import Derived.Handy
namespace Go.Proofs.YtoodcaonlfeleaaDoor
open Go Go.Proofs Go.RowKit Go.Shelf
set_option maxRecDepth 100000
attribute [local go_sem] Oper.semAt_some
def Same2 (b B : Nat) (X Y : World) : Prop := Y.heap[b]? = X.heap[b]? ∧ Y.heap[B]? = X.heap[B]?
theorem same2_t {b B : Nat} {X Y Z : World} (h : Same2 b B X Y) (k : Same2 b B Y Z) : Same2 b B X Z := ⟨k.1.trans h.1, k.2.trans h.2⟩
theorem same2_below {b B : Nat} {X Y : World} (h : Below X.heap.size X Y) (hb : b < X.heap.size) (hB : B < X.heap.size) : Same2 b B X Y := ⟨h.block b hb, h.block B hB⟩
abbrev lvV (x : Nat × R3) : Array Value := #[.int .i64 ((x.1 : Int) + 1), .agg #[.int .i64 x.2.q, .int .i64 x.2.t, .int .i64 x.2.k]]
theorem rowsT : RowT 65 48 := ⟨⟨_, Tryd.underlying65, rfl⟩, by kernel_rfl⟩
theorem sizeRow : ∀ w, (sizeOf 64).run Tryd.prog w = .ok 3 w := fun w => by kernel_rfl
theorem ix_rows {l : List R3} (hl : l.length = 16) {k : Nat} {r : R3} (hr : l[k]? = some r) : ∀ w, (Instr.index 65 (.agg (l.flatMap r3C).toArray) (.int .i64 (k : Int))).run Tryd.prog w = .ok (.agg #[.int .i64 r.q, .int .i64 r.t, .int .i64 r.k]) w := fun w => by
  have hk : k < 16 := by rw [← hl]; exact (List.getElem?_eq_some_iff.1 hr).1
  have f := flat_at r3C 3 r3_len l k r hr
  have hf := flat_len r3C 3 r3_len l
  have h1 : (0 : Int) ≤ (k : Int) ∧ (k : Int) < 16 := by omega
  have e : (l.flatMap r3C).toArray.extract (k * 3) (k * 3 + 3) = #[.int .i64 r.q, .int .i64 r.t, .int .i64 r.k] := by
    apply Array.ext_getElem?
    intro j
    rw [Array.getElem?_extract]
    rcases j with _ | _ | _ | j
    · have := f 0 _ rfl; simpa [hf, hl] using ⟨by omega, this⟩
    · have := f 1 _ rfl; simpa [hf, hl] using ⟨by omega, this⟩
    · have := f 2 _ rfl; simpa [hf, hl] using ⟨by omega, this⟩
    · simp [hf, hl]; omega
  have hi : (Tryd.prog.info? 64).map (fun i => (i.zero, i.size, i.bytes)) = some (some (.agg #[.int .i64 0, .int .i64 0, .int .i64 0]), 3, 24) := by kernel_rfl
  obtain ⟨i, hi1, hz0, hz1, hz2⟩ := info_parts hi
  simp [Instr.index, asIntOf, Go.part, hk, hi1, hz1, sizeOf, typeInfo, Result.andThen]
  have := congrArg Array.toList e
  simpa using this
theorem liveP_len (A : Tb) : ∀ k, (liveP A k).length ≤ k := by
  intro k
  induction k with
  | zero => simp [liveP]
  | succ k ih =>
    rw [liveP, List.length_append]
    cases A.rows[k]? with
    | none => simp; omega
    | some r => dsimp only; split <;> simp <;> omega
theorem liveP_pre (A : Tb) {k : Nat} (h : k < 16) : liveP A (k + 1) <+: liveP A 16 := by
  have key : ∀ m, liveP A (k + 1) <+: liveP A (k + 1 + m) := by
    intro m
    induction m with
    | zero => exact List.prefix_refl _
    | succ m ih => exact ih.trans (List.prefix_append _ _)
  have := key (15 - k)
  rwa [show k + 1 + (15 - k) = 16 by omega] at this
/-- what lies while a round goes -/
structure LvS (A : Tb) (b B d : Nat) (r : R3) (w0 u : World) : Prop where
  R : At u d [.int .i64 r.q, .int .i64 r.t, .int .i64 r.k]
  T : TAt u b A
  P : Boxed u B 24 (tp b)
  W : Below d w0 u
section
variable {A : Tb} {b B d : Nat} {r : R3} {w0 u u' : World}
theorem LvS.drew (h : LvS A b B d r w0 u) : LvS A b B d r w0 u.drew := ⟨h.R.drew, VAt.drew h.T, h.P, h.W.drew⟩
theorem LvS.below (h : LvS A b B d r w0 u) (hb : Below u.heap.size u u') : LvS A b B d r w0 u' := ⟨h.R.below hb, VAt.below h.T hb, (hb.block B h.P.lt).trans h.P, h.W.trans (hb.mono (Nat.le_of_lt h.R.lt))⟩
end
theorem own_below {β : Type} {B : Nat} {I : β → World → Prop} (h : OwnFrom B I) {s : β} {W W' : World} (hs : I s W) (hb : Below W.heap.size W W') : I s W' :=
  h s W W' none hs ⟨hb.os, hb.tape, hb.output, hb.size, fun k hk _ => hb.block k hk⟩ (fun r e => by cases e)
set_option maxHeartbeats 8000000 in
theorem live_stops {N : Int} (T : TypeId) (b B : Nat) (A : Tb) (hA : TbOk N A) (hN : N ≤ 1000000) (w : World) (hT : TAt w b A) (hP : Boxed w B 24 (tp b)) :
    SeqStopsS T Fence.wide 8 Tryd.prog 36 #[.pointer (some ⟨B, 0, none⟩)] lvV (Same2 b B) (fun xs _ => xs = liveP A 16) (fun pre => pre <+: liveP A 16) 16 w := by
  intro L J Jx W hW hJ hJx hY h0
  have hT1 : TAt W b A := VAt.below hT hW
  have hP1 : Boxed W B 24 (tp b) := (hW.block B hP.lt).trans hP
  have c1 := hP1.cell
  have hr : W.rangeAt b 4 (A.rows.flatMap r3C) := fun j v hv => by
    refine VAt.cell hT1 ?_
    rw [show 4 + j = j + 1 + 1 + 1 + 1 by omega]
    unfold tbC
    simpa using hv
  have hrl : (A.rows.flatMap r3C).length = 48 := by rw [flat_len r3C 3 r3_len, hA.len]
  have HT := Lib.hid hT1
  have HP := Lib.hid hP1
  have H0 := Lib.hid h0
  have HY := Lib.hid hY
  have HJ := Lib.hid hJ
  have HIX := Lib.hid (fun (k : Nat) (r : R3) (h : A.rows[k]? = some r) => ix_rows hA.len h)
  clear h0 hY hW hT hP hJ hJx hT1 hP1
  refine callsIn_of_wp Tryd.func36 rfl trivial ?_ rfl
  simp only [Tryd.ntmps36, List.size_toArray, List.length_cons, List.length_nil, Nat.reduceAdd, Nat.reduceSub, Array.replicate_succ, Array.replicate_zero, List.push_toArray, List.append_toArray, List.nil_append, List.cons_append]
  gi_wp2_with (first | (refine ldI_m rowsT hr hrl rfl rfl rfl ?_))
  clear c1 hr hrl
  generalize (A.rows.flatMap r3C).toArray = CS at *
  gi_loopw [9] (fun i wr => ∃ k : Nat, i = .int .i64 (k : Int) ∧ k ≤ 16 ∧ J (liveP A k) wr ∧ Same2 b B W wr ∧ W.heap.size ≤ wr.heap.size) (fun i _ => 16 - (intOf i).toNat)
  case atStart => exact ⟨0, rfl, by omega, H0.out, ⟨rfl, rfl⟩, Nat.le_refl _⟩
  case round =>
    obtain ⟨k, rfl, hk, hJk, hs, hz⟩ := hrel
    by_cases hlt : k < 16
    · have hn : A.rows[k]? = some (nthR A k) := nth_some (by rw [hA.len]; exact hlt)
      have hix := HIX.out k _ hn
      have hl : liveP A (k + 1) = liveP A k ++ (if liveR A (nthR A k) then [(k, nthR A k)] else []) := by rw [liveP, hn]
      have hro := hA.r0 _ (List.mem_of_getElem? hn)
      have hk0 := hA.k0
      generalize nthR A k = r at *
      by_cases hq : 0 < r.q
      · have dq : decide (0 < r.q) = true := by simpa using hq
        by_cases ht : A.ticks - r.k < A.idle
        · have dt : decide (A.ticks - r.k < A.idle) = true := by simpa using ht
          have hlv : liveR A r = true := by unfold liveR; rw [dq, dt]; rfl
          have DT := Lib.hid dt
          have HLV := Lib.hid hlv
          clear dt ht hlv
          have hll := liveP_len A k
          have h1k : (k : Int) < 16 := by omega
          have h0k : (0 : Int) ≤ (k : Int) := by omega
          have hw1 : wrap64 ((k : Int) + 1) = (k : Int) + 1 := by rw [wr64] <;> omega
          have hw2 : IntKind.i64.wrap ((k : Int) + 1) = (k : Int) + 1 := by rw [IntKind.wrap_i64]; omega
          have hw3 : wrap64 (A.ticks - r.k) = A.ticks - r.k := by rw [wr64] <;> omega
          have hw4 : IntKind.i64.wrap (A.ticks - r.k) = A.ticks - r.k := by rw [IntKind.wrap_i64]; omega
          have HD := Lib.hid (fun u => heard_any r u)
          unfold rowV at HD
          have hTr : TAt wr b A := VAt.keep HT.out hs.1
          have hPr : Boxed wr B 24 (tp b) := hs.2.trans HP.out
          have hb0 := hTr.lt
          have hB0 := hPr.lt
          have HL := Lib.hid hl
          have HN := Lib.hid hn
          have HO := Lib.hid hro
          have HS := Lib.hid hs
          have HK := Lib.hid hJk
          clear hl hn hro hs hJk H0 hk0
          gi_wp2_with fail
          obtain ⟨W1, hW1⟩ : ∃ W1, W1 = wr.alloc (.cells #[.int .i64 r.q, .int .i64 r.t, .int .i64 r.k] 64) := ⟨_, rfl⟩
          have hL1 : LvS A b B wr.heap.size r wr W1 := by
            rw [hW1]
            exact ⟨At.nwb _ _ [_, _, _] _ rfl, VAt.alloc hTr _, hPr.alloc _, below_cells _⟩
          have hJ1 : J (liveP A k) W1 := by rw [hW1]; exact HJ.out.alloc _ HK.out
          rw [← hW1]
          have hJd : J (liveP A k) W1.drew := own_below HJ.out hJ1 (Below.refl _ _).drew
          refine region_anyM (S := fun u => LvS A b B wr.heap.size r wr u ∧ J (liveP A k) u) 21 (by kernel_rfl) (fun hS => ?_) ⟨hL1.drew, hJd⟩
          clear hJ1 hJd hL1 hW1 HK
          generalize W1.drew = w0 at *
          refine anyM_c 0 [0, 1, 2, 15, 16, 21] (v := .agg #[.int .i64 r.q, .int .i64 r.t, .int .i64 r.k]) hS (fun u h => And.intro (h.1.R.cell 0 _ rfl) (And.intro (h.1.R.cell 1 _ rfl) (h.1.R.cell 2 _ rfl))) ?_
          refine anyM_o 1 (fun K hK => ?_)
          go_simp
          refine ⟨trivial, ?_⟩
          refine (callsIn_wide.2 (HD.out _)).mono ?_
          rintro e w2 ⟨rfl, hb2⟩
          dsimp only
          have hM1 : LvS A b B wr.heap.size r wr w2 ∧ J (liveP A k) w2 := ⟨hS.1.below hb2, own_below HJ.out hS.2 hb2⟩
          refine hK _ _ hM1 ?_
          clear hS
          have hS := hM1
          clear hM1 hK K hb2 HD
          simp only [dq]
          have dt := DT.out
          refine anyM_d 2 [2, 15, 16, 17, 21] hS ?_
          refine anyM_c 3 [3, 4, 5, 6, 9, 14, 15, 16, 17, 21] hS (fun u h => h.1.P.cell) ?_
          refine anyM_d 4 [4, 5, 6, 9, 14, 15, 16, 17, 21] hS ?_
          refine anyM_d 5 [5, 6, 9, 14, 15, 16, 17, 21] hS ?_
          refine anyM_c 6 [6, 9, 14, 15, 16, 17, 21] hS (fun u h => h.1.T.c2) ?_
          refine anyM_d 7 [7, 8, 9, 14, 15, 16, 17, 21] hS ?_
          refine anyM_c 8 [8, 9, 14, 15, 16, 17, 21] hS (fun u h => h.1.R.cell 2 _ rfl) ?_
          refine anyM_d 9 [9, 14, 15, 16, 17, 21] hS ?_
          refine anyM_c 10 [10, 11, 12, 13, 14, 15, 16, 17, 21] hS (fun u h => h.1.P.cell) ?_
          refine anyM_d 11 [11, 12, 13, 14, 15, 16, 17, 21] hS ?_
          refine anyM_d 12 [12, 13, 14, 15, 16, 17, 21] hS ?_
          refine anyM_c 13 [13, 14, 15, 16, 17, 21] hS (fun u h => h.1.T.c1) ?_
          refine anyM_d 14 [14, 15, 16, 17, 21] hS ?_
          refine anyM_d 15 [15, 16, 17, 21] hS ?_
          refine anyM_d 16 [16, 17, 21] hS ?_
          refine anyM_d 17 [17, 21] hS ?_
          refine anyM_d 18 [18, 19, 21] hS ?_
          refine anyM_d 19 [19, 21] hS ?_
          refine anyM_c 20 [20, 21] (v := .agg #[.int .i64 r.q, .int .i64 r.t, .int .i64 r.k]) hS (fun u h => And.intro (h.1.R.cell 0 _ rfl) (And.intro (h.1.R.cell 1 _ rfl) (h.1.R.cell 2 _ rfl))) ?_
          obtain ⟨fn, tmps, assign, body, hy, hR⟩ := HY.out (liveP A k) (k, r) _ hS.2 (by omega)
          have HE := Lib.hid hS
          clear hS
          refine anyM_l (fun K hK => ?_)
          go_simp
          refine hR.mono ?_
          rintro e W3 (⟨rfl, hJ3, hk3, hz3⟩ | ⟨rfl, hJx3, _⟩)
          · dsimp only
            refine hK _ _ ?_
            clear hK K hy hR
            refine anyI_o 22 (fun K hK => ?_)
            go_simp
            refine hK _ _ ?_
            clear hK K
            refine anyI_o 23 (fun K hK => ?_)
            go_simp
            refine hK _ _ ?_
            clear hK K
            refine anyIn_done (by kernel_rfl) ?_ _
            have HV := HLV
            have HJ3 := Lib.hid hJ3
            have HK3 := Lib.hid hk3
            have hz4 := hz3.size
            clear hix dq dt hw2 hw3 hw4 hll hJ3 hk3 hz3
            gi_wp2
            go_roundw
            case rel =>
              refine ⟨k + 1, by go_num, by omega, ?_, ?_, ?_⟩
              · rw [HL.out, HV.out]; exact HJ3.out
              · exact same2_t (same2_t HS.out ⟨HE.out.1.W.block b hb0, HE.out.1.W.block B hB0⟩) HK3.out
              · exact Nat.le_trans (Nat.le_trans hz HE.out.1.W.size) hz4
            case measure => simp [intOf]; omega
          · dsimp only
            refine hK _ _ ?_
            clear hK K hy hR
            refine anyI_o 22 (fun K hK => ?_)
            go_simp
            refine hK _ _ ?_
            clear hK K
            refine anyI_o 23 (fun K hK => ?_)
            go_simp
            refine hK _ _ ?_
            clear hK K
            refine anyIn_done (by kernel_rfl) ?_ _
            have HV := HLV
            have HJ3 := Lib.hid hJx3
            clear hix dq dt hw2 hw3 hw4 hll hJx3
            gi_wp2
            refine bodyPost_ret (results_none rfl _ _ _) rfl ?_
            refine ⟨⟨_, rfl⟩, .inr ⟨_, ?_, HJ3.out⟩⟩
            have e1 : liveP A (k + 1) = liveP A k ++ [(k, r)] := by rw [HL.out, HV.out]; rfl
            rw [← e1]
            exact liveP_pre A hlt
        · have dt : decide (A.ticks - r.k < A.idle) = false := by simpa using ht
          have hlv : liveR A r = false := by unfold liveR; rw [dq, dt]; rfl
          have DT := Lib.hid dt
          have HLV := Lib.hid hlv
          clear dt ht hlv
          have hll := liveP_len A k
          have h1k : (k : Int) < 16 := by omega
          have h0k : (0 : Int) ≤ (k : Int) := by omega
          have hw1 : wrap64 ((k : Int) + 1) = (k : Int) + 1 := by rw [wr64] <;> omega
          have hw2 : IntKind.i64.wrap ((k : Int) + 1) = (k : Int) + 1 := by rw [IntKind.wrap_i64]; omega
          have hw3 : wrap64 (A.ticks - r.k) = A.ticks - r.k := by rw [wr64] <;> omega
          have hw4 : IntKind.i64.wrap (A.ticks - r.k) = A.ticks - r.k := by rw [IntKind.wrap_i64]; omega
          have HD := Lib.hid (fun u => heard_any r u)
          unfold rowV at HD
          have hTr : TAt wr b A := VAt.keep HT.out hs.1
          have hPr : Boxed wr B 24 (tp b) := hs.2.trans HP.out
          have hb0 := hTr.lt
          have hB0 := hPr.lt
          have HL := Lib.hid hl
          have HN := Lib.hid hn
          have HO := Lib.hid hro
          have HS := Lib.hid hs
          have HK := Lib.hid hJk
          clear hl hn hro hs hJk H0 hk0
          gi_wp2_with fail
          obtain ⟨W1, hW1⟩ : ∃ W1, W1 = wr.alloc (.cells #[.int .i64 r.q, .int .i64 r.t, .int .i64 r.k] 64) := ⟨_, rfl⟩
          have hL1 : LvS A b B wr.heap.size r wr W1 := by
            rw [hW1]
            exact ⟨At.nwb _ _ [_, _, _] _ rfl, VAt.alloc hTr _, hPr.alloc _, below_cells _⟩
          have hJ1 : J (liveP A k) W1 := by rw [hW1]; exact HJ.out.alloc _ HK.out
          rw [← hW1]
          have hJd : J (liveP A k) W1.drew := own_below HJ.out hJ1 (Below.refl _ _).drew
          refine region_anyM (S := fun u => LvS A b B wr.heap.size r wr u ∧ J (liveP A k) u) 23 (by kernel_rfl) (fun hS => ?_) ⟨hL1.drew, hJd⟩
          clear hJ1 hJd hL1 hW1 HK
          generalize W1.drew = w0 at *
          refine anyM_c 0 [0, 1, 2, 15, 16, 23] (v := .agg #[.int .i64 r.q, .int .i64 r.t, .int .i64 r.k]) hS (fun u h => And.intro (h.1.R.cell 0 _ rfl) (And.intro (h.1.R.cell 1 _ rfl) (h.1.R.cell 2 _ rfl))) ?_
          refine anyM_o 1 (fun K hK => ?_)
          go_simp
          refine ⟨trivial, ?_⟩
          refine (callsIn_wide.2 (HD.out _)).mono ?_
          rintro e w2 ⟨rfl, hb2⟩
          dsimp only
          have hM1 : LvS A b B wr.heap.size r wr w2 ∧ J (liveP A k) w2 := ⟨hS.1.below hb2, own_below HJ.out hS.2 hb2⟩
          refine hK _ _ hM1 ?_
          clear hS
          have hS := hM1
          clear hM1 hK K hb2 HD
          simp only [dq]
          have dt := DT.out
          refine anyM_d 2 [2, 15, 16, 23] hS ?_
          refine anyM_c 3 [3, 4, 5, 6, 9, 14, 15, 16, 23] hS (fun u h => h.1.P.cell) ?_
          refine anyM_d 4 [4, 5, 6, 9, 14, 15, 16, 23] hS ?_
          refine anyM_d 5 [5, 6, 9, 14, 15, 16, 23] hS ?_
          refine anyM_c 6 [6, 9, 14, 15, 16, 23] hS (fun u h => h.1.T.c2) ?_
          refine anyM_d 7 [7, 8, 9, 14, 15, 16, 23] hS ?_
          refine anyM_c 8 [8, 9, 14, 15, 16, 23] hS (fun u h => h.1.R.cell 2 _ rfl) ?_
          refine anyM_d 9 [9, 14, 15, 16, 23] hS ?_
          refine anyM_c 10 [10, 11, 12, 13, 14, 15, 16, 23] hS (fun u h => h.1.P.cell) ?_
          refine anyM_d 11 [11, 12, 13, 14, 15, 16, 23] hS ?_
          refine anyM_d 12 [12, 13, 14, 15, 16, 23] hS ?_
          refine anyM_c 13 [13, 14, 15, 16, 23] hS (fun u h => h.1.T.c1) ?_
          refine anyM_d 14 [14, 15, 16, 23] hS ?_
          refine anyM_d 15 [15, 16, 23] hS ?_
          refine anyM_d 16 [16, 23] hS ?_
          refine anyM_d 17 [17, 21, 22, 23] (v := undef) hS ?_ (hy := Or.inr ⟨by rfl, rfl⟩)
          refine anyM_d 18 [18, 19, 21, 22, 23] (v := undef) hS ?_ (hy := Or.inr ⟨by rfl, rfl⟩)
          refine anyM_d 19 [19, 21, 22, 23] (v := undef) hS ?_ (hy := Or.inr ⟨by rfl, rfl⟩)
          refine anyM_d 20 [20, 21, 22, 23] (v := undef) hS ?_ (hy := Or.inr ⟨by rfl, rfl⟩)
          refine anyM_d 21 [21, 22, 23] (v := undef) hS ?_ (hy := Or.inr ⟨by rfl, rfl⟩)
          refine anyM_d 22 [22, 23] (v := undef) hS ?_ (hy := Or.inr ⟨by rfl, rfl⟩)
          refine anyM_l (fun K hK => ?_)
          go_simp
          refine hK _ _ ?_
          clear hK K
          refine anyIn_done (by kernel_rfl) ?_ _
          have HE := Lib.hid hS
          have HV := HLV
          clear hS hix dt dq hw2 hw3 hw4 hll
          gi_wp2
          go_roundw
          case rel =>
            refine ⟨k + 1, by go_num, by omega, ?_, ?_, ?_⟩
            · rw [HL.out, HV.out]; simpa using HE.out.2
            · exact same2_t HS.out ⟨HE.out.1.W.block b hb0, HE.out.1.W.block B hB0⟩
            · exact Nat.le_trans hz HE.out.1.W.size
          case measure => simp [intOf]; omega
      · have dq : decide (0 < r.q) = false := by simpa using hq
        have hlv : liveR A r = false := by unfold liveR; rw [dq]; rfl
        have hll := liveP_len A k
        have h1k : (k : Int) < 16 := by omega
        have h0k : (0 : Int) ≤ (k : Int) := by omega
        have hw1 : wrap64 ((k : Int) + 1) = (k : Int) + 1 := by rw [wr64] <;> omega
        have hw2 : IntKind.i64.wrap ((k : Int) + 1) = (k : Int) + 1 := by rw [IntKind.wrap_i64]; omega
        have hw3 : wrap64 (A.ticks - r.k) = A.ticks - r.k := by rw [wr64] <;> omega
        have hw4 : IntKind.i64.wrap (A.ticks - r.k) = A.ticks - r.k := by rw [IntKind.wrap_i64]; omega
        have HD := Lib.hid (fun u => heard_any r u)
        unfold rowV at HD
        have hTr : TAt wr b A := VAt.keep HT.out hs.1
        have hPr : Boxed wr B 24 (tp b) := hs.2.trans HP.out
        have hb0 := hTr.lt
        have hB0 := hPr.lt
        have HL := Lib.hid hl
        have HN := Lib.hid hn
        have HO := Lib.hid hro
        have HS := Lib.hid hs
        have HK := Lib.hid hJk
        clear hl hn hro hs hJk H0 hk0
        gi_wp2_with fail
        obtain ⟨W1, hW1⟩ : ∃ W1, W1 = wr.alloc (.cells #[.int .i64 r.q, .int .i64 r.t, .int .i64 r.k] 64) := ⟨_, rfl⟩
        have hL1 : LvS A b B wr.heap.size r wr W1 := by
          rw [hW1]
          exact ⟨At.nwb _ _ [_, _, _] _ rfl, VAt.alloc hTr _, hPr.alloc _, below_cells _⟩
        have hJ1 : J (liveP A k) W1 := by rw [hW1]; exact HJ.out.alloc _ HK.out
        rw [← hW1]
        have hJd : J (liveP A k) W1.drew := own_below HJ.out hJ1 (Below.refl _ _).drew
        refine region_anyM (S := fun u => LvS A b B wr.heap.size r wr u ∧ J (liveP A k) u) 23 (by kernel_rfl) (fun hS => ?_) ⟨hL1.drew, hJd⟩
        clear hJ1 hJd hL1 hW1 HK
        generalize W1.drew = w0 at *
        refine anyM_c 0 [0, 1, 2, 15, 16, 23] (v := .agg #[.int .i64 r.q, .int .i64 r.t, .int .i64 r.k]) hS (fun u h => And.intro (h.1.R.cell 0 _ rfl) (And.intro (h.1.R.cell 1 _ rfl) (h.1.R.cell 2 _ rfl))) ?_
        refine anyM_o 1 (fun K hK => ?_)
        go_simp
        refine ⟨trivial, ?_⟩
        refine (callsIn_wide.2 (HD.out _)).mono ?_
        rintro e w2 ⟨rfl, hb2⟩
        dsimp only
        have hM1 : LvS A b B wr.heap.size r wr w2 ∧ J (liveP A k) w2 := ⟨hS.1.below hb2, own_below HJ.out hS.2 hb2⟩
        refine hK _ _ hM1 ?_
        clear hS
        have hS := hM1
        clear hM1 hK K hb2 HD
        simp only [dq]
        refine anyM_d 2 [2, 15, 16, 23] hS ?_
        refine anyM_d 3 [3, 4, 5, 6, 9, 14, 15, 16, 23] (v := undef) hS ?_ (hy := Or.inr ⟨by rfl, rfl⟩)
        refine anyM_d 4 [4, 5, 6, 9, 14, 15, 16, 23] (v := undef) hS ?_ (hy := Or.inr ⟨by rfl, rfl⟩)
        refine anyM_d 5 [5, 6, 9, 14, 15, 16, 23] (v := undef) hS ?_ (hy := Or.inr ⟨by rfl, rfl⟩)
        refine anyM_d 6 [6, 9, 14, 15, 16, 23] (v := undef) hS ?_ (hy := Or.inr ⟨by rfl, rfl⟩)
        refine anyM_d 7 [7, 8, 9, 14, 15, 16, 23] (v := undef) hS ?_ (hy := Or.inr ⟨by rfl, rfl⟩)
        refine anyM_d 8 [8, 9, 14, 15, 16, 23] (v := undef) hS ?_ (hy := Or.inr ⟨by rfl, rfl⟩)
        refine anyM_d 9 [9, 14, 15, 16, 23] (v := undef) hS ?_ (hy := Or.inr ⟨by rfl, rfl⟩)
        refine anyM_d 10 [10, 11, 12, 13, 14, 15, 16, 23] (v := undef) hS ?_ (hy := Or.inr ⟨by rfl, rfl⟩)
        refine anyM_d 11 [11, 12, 13, 14, 15, 16, 23] (v := undef) hS ?_ (hy := Or.inr ⟨by rfl, rfl⟩)
        refine anyM_d 12 [12, 13, 14, 15, 16, 23] (v := undef) hS ?_ (hy := Or.inr ⟨by rfl, rfl⟩)
        refine anyM_d 13 [13, 14, 15, 16, 23] (v := undef) hS ?_ (hy := Or.inr ⟨by rfl, rfl⟩)
        refine anyM_d 14 [14, 15, 16, 23] (v := undef) hS ?_ (hy := Or.inr ⟨by rfl, rfl⟩)
        refine anyM_d 15 [15, 16, 23] hS ?_
        refine anyM_d 16 [16, 23] hS ?_
        refine anyM_d 17 [17, 21, 22, 23] (v := undef) hS ?_ (hy := Or.inr ⟨by rfl, rfl⟩)
        refine anyM_d 18 [18, 19, 21, 22, 23] (v := undef) hS ?_ (hy := Or.inr ⟨by rfl, rfl⟩)
        refine anyM_d 19 [19, 21, 22, 23] (v := undef) hS ?_ (hy := Or.inr ⟨by rfl, rfl⟩)
        refine anyM_d 20 [20, 21, 22, 23] (v := undef) hS ?_ (hy := Or.inr ⟨by rfl, rfl⟩)
        refine anyM_d 21 [21, 22, 23] (v := undef) hS ?_ (hy := Or.inr ⟨by rfl, rfl⟩)
        refine anyM_d 22 [22, 23] (v := undef) hS ?_ (hy := Or.inr ⟨by rfl, rfl⟩)
        refine anyM_l (fun K hK => ?_)
        go_simp
        refine hK _ _ ?_
        clear hK K
        refine anyIn_done (by kernel_rfl) ?_ _
        have HE := Lib.hid hS
        have HV := Lib.hid hlv
        clear hS hlv hix dq hw2 hw3 hw4 hll
        gi_wp2
        go_roundw
        case rel =>
          refine ⟨k + 1, by go_num, by omega, ?_, ?_, ?_⟩
          · rw [HL.out, HV.out]; simpa using HE.out.2
          · exact same2_t HS.out ⟨HE.out.1.W.block b hb0, HE.out.1.W.block B hB0⟩
          · exact Nat.le_trans hz HE.out.1.W.size
        case measure => simp [intOf]; omega
    · obtain rfl : k = 16 := by omega
      have HK := Lib.hid hJk
      clear hJk
      gi_wp2
      go_end0
      exact ⟨⟨_, rfl⟩, .inl ⟨_, rfl, HK.out⟩⟩
end Go.Proofs.YtoodcaonlfeleaaDoor
