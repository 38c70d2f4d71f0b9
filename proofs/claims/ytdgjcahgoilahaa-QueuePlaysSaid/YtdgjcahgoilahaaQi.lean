/- queue.Queue of one kind of elements: New, Len, Head, Put, Take, Clear. -/
import Derived.Test.YtdgjcahgoilahaaQa
import Derived.Test.YtdgjcahgoilahaaProg
import Derived.Deep.RegionLaw
import Derived.RangeFuncNested
import Derived.RangeFuncBound
import Derived.RangeFuncCalls
import Derived.RangeFuncLeaves
import Derived.RangeFuncBox
import Derived.RangeFuncFrom
import Derived.Shelf.Abstract
import Derived.Shelf.RegionOpen
import Derived.WalkKit
import Derived.OwnWalkIn
import Derived.TacticsInMore
import Derived.LoopNIn
import Derived.LoopIn
import Derived.Handy
import Derived.OneCell
import Derived.Lib.Hide
import Derived.BigQuiet
import Derived.Deep.QuietTactic
namespace Go.Proofs.Ytdgjcahgoilahaa
open Go Go.Proofs Go.RowKit Go.Shelf
set_option maxRecDepth 100000
attribute [local go_sem] Oper.semAt_some cell_set
abbrev qEI (x : Int) : Value := (.int .i64 x)
theorem infoI : (Try.prog.info? 2).map (fun i => (i.zero, i.size, i.bytes)) = some (some (.int .i64 0), 1, 8) := by kernel_rfl
abbrev QAI (B : Nat) (w : World) (b most : Nat) (v : Value) (o : Option Nat) (X : List Int) : Prop := QA 63 2 B w b most v o (X.map qEI)
def NewPostI (most : Int) (w : World) (e : Ending) (w' : World) : Prop :=
    ((1 ≤ most ∧ most ≤ 1024) ∧ e = .returned (.tuple #[.pointer (some ⟨w.heap.size, 0, none⟩), .int .i64 0]) ∧ QAI w.heap.size w' w.heap.size most.toNat (.slice none 0 0) none [] ∧ Below w.heap.size w w') ∨ (¬ (1 ≤ most ∧ most ≤ 1024) ∧ e = .returned (.tuple #[.pointer none, .int .i64 1]) ∧ w' = w)
theorem newI_any (most : Int) (w : World) : Calls Try.prog 14 #[.int .i64 most] w (NewPostI most w) := by
  by_cases h1 : most < 1
  · go_enter Try.func14, Try.ntmps14
    go_wp2
    refine bodyPost_ret (by simp [results, Try.results14, go_sem]; try rfl) rfl ?_
    exact .inr ⟨by omega, rfl, rfl⟩
  · by_cases h2 : 1024 < most
    · go_enter Try.func14, Try.ntmps14
      go_wp2
      refine bodyPost_ret (by simp [results, Try.results14, go_sem]; try rfl) rfl ?_
      exact .inr ⟨by omega, rfl, rfl⟩
    · obtain ⟨m, rfl⟩ := Int.eq_ofNat_of_zero_le (show 0 ≤ most by omega)
      go_enter Try.func14, Try.ntmps14
      go_wp2
      refine bodyPost_ret (by simp [results, Try.results14, go_sem]; try rfl) rfl ?_
      exact .inl ⟨by omega, rfl, ⟨Nat.le_refl _, heap_alloc_new w _, .inl ⟨rfl, rfl, rfl⟩, by simp, by simp; omega⟩, below_cells _⟩
section
variable {B b most : Nat} {v : Value} {o : Option Nat} {X : List Int} {w : World}
theorem lenI_any (h : QAI B w b most v o X) : Calls Try.prog 25 #[.pointer (some ⟨b, 0, none⟩)] w fun e w' => e = .returned (.int .i64 (X.length : Int)) ∧ w' = w := by
  obtain ⟨a, cap, hv⟩ := h.row.slice
  rw [List.length_map] at hv
  subst hv
  have hA := h.at.f2
  clear h
  go_enter Try.func25, Try.ntmps25
  go_wp2
  go_ret
  exact ⟨rfl, rfl⟩
/-- the eldest's value; a zero where none waits -/
def hdI : List Int → Value | [] => (.int .i64 0) | x :: _ => qEI x
theorem headI_any (h : QAI B w b most v o X) : Calls Try.prog 26 #[.pointer (some ⟨b, 0, none⟩)] w fun e w' =>
    e = .returned (.tuple #[hdI X, .bool (!X.isEmpty)]) ∧ Below w.heap.size w w' := by
  have HL := Lib.hid (lenI_any h)
  cases X with
  | nil =>
    clear h
    go_enter Try.func26, Try.ntmps26
    go_wp2_with fail
    refine HL.out.mono ?_
    rintro e w2 ⟨rfl, rfl⟩
    go_wp2
    refine bodyPost_ret (by simp [results, Try.results26, go_sem]; try rfl) rfl ?_
    exact ⟨rfl, below_cells _⟩
  | cons x t =>
    obtain ⟨g, off, cap, hv, ho, hb, hl, hc, hf⟩ := h.row.cons
    rw [List.length_map] at hv hl
    subst hv
    have hA := h.at.f2
    have hne : ((t.length + 1 : Nat) : Int) ≠ 0 := by omega
    have hlt : (0 : Int) < ((t.length + 1 : Nat) : Int) := by omega
    have HL : Hid (Calls Try.prog 25 #[.pointer (some ⟨b, 0, none⟩)] w fun e w' => e = .returned (.int .i64 ((t.length + 1 : Nat) : Int)) ∧ w' = w) := HL
    clear h
    go_enter Try.func26, Try.ntmps26
    go_wp2_with fail
    refine HL.out.mono ?_
    rintro e w2 ⟨rfl, rfl⟩
    go_wp2
    refine bodyPost_ret (by simp [results, Try.results26, go_sem]; try rfl) rfl ?_
    exact ⟨rfl, Below.refl _ _⟩
def PutPostI (B b most : Nat) (o : Option Nat) (X : List Int) (x : Int) (w : World) (e : Ending) (w' : World) : Prop :=
  ∃ v' o' X', e = .returned (.int .i64 (if X.length < most then 0 else 11)) ∧ X' = (if X.length < most then X ++ [x] else X) ∧ QAI B w' b most v' o' X' ∧ To (b :: o.toList) (b :: o'.toList) w w'
set_option maxHeartbeats 4000000 in
theorem putI_any (x : Int) (h : QAI B w b most v o X) : Calls Try.prog 15 #[.pointer (some ⟨b, 0, none⟩), qEI x] w (PutPostI B b most o X x w) := by
  have H := Lib.hid h
  have hm := h.most
  obtain ⟨va, vc, hv⟩ := h.row.slice
  rw [List.length_map] at hv
  have HLE := Lib.hid (fun u (hu : QAI B u b most v o X) => lenI_any hu)
  by_cases hl : X.length < most
  · have hl1 : ¬ ((most : Int) ≤ (X.length : Int)) := by omega
    have HT : Hid (PutPostI B b most o X x w = fun e w' => ∃ v' o', e = .returned (.int .i64 0) ∧ QAI B w' b most v' o' (X ++ [x]) ∧ To (b :: o.toList) (b :: o'.toList) w w') := by
      show _ = _
      funext e w'
      unfold PutPostI
      rw [if_pos hl, if_pos hl]
      simp
    obtain ⟨i0, hi, hz0, hz1, hz2⟩ := info_parts infoI
    have HI := Lib.hid hi
    have HZ := Lib.hid hz0
    have HZ1 := Lib.hid hz1
    have HZ2 := Lib.hid hz2
    clear h hi hz0 hz1 hz2 hl
    rw [HT.out]
    go_enter Try.func15, Try.ntmps15
    go_wp2_with fail
    refine wp_region_held_drew (S := fun u => QAI B u b most v o X ∧ Below w.heap.size w u) (by kernel_rfl) ⟨H.out.drew, (Below.refl _ _).drew⟩ (fun hS => ?_)
    refine tkH 0 hS ?_
    refine tkH 2 hS ?_
    refine tkH 3 hS ?_
    refine tkH 4 hS ?_
    refine tkC 5 hS (fun u h => h.1.at.cell 0 _ rfl) ?_
    refine anyH_1 1 (fun K hK => ?_)
    go_simp
    go_at_call 25
    refine (HLE.out _ hS.1).mono ?_
    rintro e w2 ⟨rfl, rfl⟩
    dsimp only
    refine hK.out _ _ hS (fun hS => ?_)
    clear hK K
    refine tkH 6 hS ?_
    refine wpAnyH_done (by kernel_rfl) ?_ _
    obtain ⟨hQ, hB⟩ := hS
    generalize w.drew = w3 at *
    have hA := hQ.at.f2
    have hx0 : (w3.alloc (.cells #[qEI x] 2)).cell? ⟨w3.heap.size, 0, none⟩ = some (qEI x) := (At.nw w3 [qEI x] 2).cell 0 _ rfl
    have hQ1 : QAI B (w3.alloc (.cells #[qEI x] 2)) b most v o X := hQ.below (below_cells _)
    obtain ⟨v', o', w4, hr, hrow, hto⟩ := QRow.append (P := Try.prog) hQ1.row Try.underlying37 HI.out HZ.out HZ1.out HZ2.out rfl (by decide) (x := qEI x) rfl (c := 1) hx0 (by rw [List.length_map]; omega) (by have := hQ1.lt; have := hQ1.ge; omega)
    have hP := hQ1.put (by decide) hrow hto (by rw [List.length_append, List.length_map, List.length_singleton]; omega)
    obtain ⟨va', vc', hv'⟩ := hrow.slice
    rw [List.length_append, List.length_map, List.length_singleton] at hv'
    have hA4 : At w4 b [.int .i64 (most : Int), v] := by
      have hne := hQ1.ne (show 63 ≠ 2 by decide)
      have : w4.heap[b]? = some (.cells #[.int .i64 (most : Int), v] 63 (0, 0)) := (hto.block b hQ1.lt (fun q => hne (by cases o <;> simp at q ⊢; exact q.symm))).trans hQ1.blk
      exact At.of_block this
    have hA4 := hA4.f2
    have HF : Hid (QAI B (w4.setCell ⟨b, 1, none⟩ v') b most v' o' (X ++ [x]) ∧ To (b :: o.toList) (b :: o'.toList) w (w4.setCell ⟨b, 1, none⟩ v')) := by
      refine ⟨?_, ?_⟩
      · have := hP.1
        rwa [show X.map qEI ++ [qEI x] = (X ++ [x]).map qEI by simp] at this
      · exact (To.of_below (hB.alloc (by exact hB.size) _)).trans hP.2
    subst hv hv'
    have HR := Lib.hid hr
    clear hrow hto hP hQ1 hx0 hQ hr hB H HLE
    go_wp2_with (refine Go.Lib.wpList_append_run _ rfl _ _ _ _ rfl _ _ rfl rfl _ _ (HR.out _) ?_)
    go_ret
    exact ⟨_, _, rfl, HF.out.1, HF.out.2⟩
  · have hl1 : (most : Int) ≤ (X.length : Int) := by omega
    have HT : Hid (PutPostI B b most o X x w = fun e w' => ∃ v' o', e = .returned (.int .i64 11) ∧ QAI B w' b most v' o' X ∧ To (b :: o.toList) (b :: o'.toList) w w') := by
      show _ = _
      funext e w'
      unfold PutPostI
      rw [if_neg hl, if_neg hl]
      simp
    clear h hl
    rw [HT.out]
    go_enter Try.func15, Try.ntmps15
    go_wp2_with fail
    refine wp_region_held_drew (S := fun u => QAI B u b most v o X ∧ Below w.heap.size w u) (by kernel_rfl) ⟨H.out.drew, (Below.refl _ _).drew⟩ (fun hS => ?_)
    refine tkH 0 hS ?_
    refine tkH 2 hS ?_
    refine tkH 3 hS ?_
    refine tkH 4 hS ?_
    refine tkC 5 hS (fun u h => h.1.at.cell 0 _ rfl) ?_
    refine anyH_1 1 (fun K hK => ?_)
    go_simp
    go_at_call 25
    refine (HLE.out _ hS.1).mono ?_
    rintro e w2 ⟨rfl, rfl⟩
    dsimp only
    refine hK.out _ _ hS (fun hS => ?_)
    clear hK K
    refine tkH 6 hS ?_
    refine wpAnyH_done (by kernel_rfl) ?_ _
    go_wp2
    go_ret
    exact ⟨_, _, rfl, hS.1, To.of_below hS.2⟩
def TakePostI (B b most : Nat) (o : Option Nat) (X : List Int) (w : World) (e : Ending) (w' : World) : Prop :=
  ∃ v' o', e = .returned (.tuple #[hdI X, .bool (!X.isEmpty)]) ∧ QAI B w' b most v' o' X.tail ∧ To (b :: o.toList) (b :: o'.toList) w w'
theorem zeroVI : ∀ w, (zeroValue 2).run Try.prog w = .ok (.int .i64 0) w := fun w => by kernel_rfl
theorem run_clearI (w : World) (g off c : Nat) (hc : (w.cell? ⟨g, off, none⟩).isSome = true) (hf : w.frozen? ⟨g, off, none⟩ = false) (ty : TypeId) :
    (Builtin.clear_ #[37] ty #[.slice (some ⟨g, off, none⟩) 1 c]).run Try.prog w = .ok (.tuple #[]) (w.setCell ⟨g, off, none⟩ (.int .i64 0)) := by
  have h0 : ∀ j, j < 1 → j = 0 := fun j hj => by omega
  have := Go.Lib.run_clear_slice (P := Try.prog) w 37 2 ty (.int .i64 0) Try.underlying37 zeroVI rfl rfl g off 1 c (by omega) (fun j hj => by rw [h0 j hj]; exact hc) (fun j hj => by rw [h0 j hj]; exact hf)
  rw [this]
  rfl
set_option maxHeartbeats 4000000 in
theorem takeI_any (h : QAI B w b most v o X) : Calls Try.prog 16 #[.pointer (some ⟨b, 0, none⟩)] w (TakePostI B b most o X w) := by
  have HH := Lib.hid (headI_any h)
  have H := Lib.hid h
  cases X with
  | nil =>
    clear h
    go_enter Try.func16, Try.ntmps16
    go_wp2_with fail
    refine HH.out.mono ?_
    rintro e w2 ⟨rfl, hb2⟩
    go_wp2
    refine bodyPost_ret (by simp [results, Try.results16, go_sem]; try rfl) rfl ?_
    exact ⟨_, _, rfl, H.out.below hb2, To.of_below hb2⟩
  | cons x t =>
    clear h
    go_enter Try.func16, Try.ntmps16
    go_wp2_with fail
    refine HH.out.mono ?_
    rintro e w2 ⟨rfl, hb2⟩
    have hQ : QAI B w2 b most v o (x :: t) := H.out.below hb2
    obtain ⟨g, off, cap, hv, ho, hbg, hcap, hc, hf⟩ := hQ.row.cons
    rw [List.length_map] at hv hcap
    subst hv ho
    have hrow := QRow.take hQ.row (z := (.int .i64 0)) (cap := cap) (by rw [List.length_map])
    have hne : g ≠ b := fun q => hQ.ne (show 63 ≠ 2 by decide) (by rw [q])
    have hto : To (some g).toList (some g).toList w2 (w2.setCell ⟨g, off, none⟩ (.int .i64 0)) := ⟨rfl, rfl, rfl, by simp [World.setCell], fun k _ hk => Below.heap_setCell _ _ _ k (fun q => hk (by rw [q]; simp)), fun k hk => .inl hk⟩
    have hP := hQ.put (by decide) hrow hto (by have := hQ.few; simp only [List.map_cons, List.length_cons] at this; omega)
    have hA := hQ.at.f2
    have hA2 := (hQ.at.far hne (.int .i64 0) (j := off)).f2
    have hR := run_clearI w2 g off cap (by rw [hc]; rfl) hf
    have h0t : (0 : Int) ≤ 1 ∧ (1 : Int) ≤ ((t.length + 1 : Nat) : Int) ∧ (1 : Int) ≤ (cap : Int) := by omega
    have HF : Hid (QAI B ((w2.setCell ⟨g, off, none⟩ (.int .i64 0)).setCell ⟨b, 1, none⟩ (.slice (if cap = 1 then some ⟨g, off, none⟩ else some ⟨g, off + 1, none⟩) t.length (cap - 1))) b most (.slice (if cap = 1 then some ⟨g, off, none⟩ else some ⟨g, off + 1, none⟩) t.length (cap - 1)) (some g) t ∧ To (b :: (some g).toList) (b :: (some g).toList) w ((w2.setCell ⟨g, off, none⟩ (.int .i64 0)).setCell ⟨b, 1, none⟩ (.slice (if cap = 1 then some ⟨g, off, none⟩ else some ⟨g, off + 1, none⟩) t.length (cap - 1)))) := by
      rw [List.length_map] at hP
      exact ⟨hP.1, (To.of_below hb2).trans hP.2⟩
    clear hP hto hrow hQ hb2
    go_wp2
    all_goals
      have hfin := HF.out
      first | rw [if_pos (by assumption)] at hfin | rw [if_neg (by assumption)] at hfin | rw [if_pos rfl] at hfin
      refine bodyPost_ret (by simp [results, Try.results16, go_sem]; try rfl) rfl ?_
      first
        | exact ⟨_, _, rfl, hfin.1, hfin.2⟩
        | (obtain rfl : cap = 1 := by assumption
           exact ⟨_, _, rfl, hfin.1, hfin.2⟩)
/-- a block, if there is one, lies as it lay -/
def SmI (o : Option Nat) (A B : World) : Prop := ∀ b, o = some b → B.heap[b]? = A.heap[b]?
set_option maxHeartbeats 4000000 in
theorem eldest1I_in (F : Fence) (n : Nat) (hf : F.fn 31) (hro : F.round = none) (hn : 1 ≤ n) (l Bs g off cap : Nat) (zs : List Int) (hreach : zs.length ≤ 1024) (J Jx : List Int → World → Prop)
    (hY : ∀ pre x W, J pre W → pre.length < zs.length → YieldAt F (n - 1) Try.prog l #[qEI x] W fun e W' =>
      (e = .returned (.bool true) ∧ J (pre ++ [x]) W' ∧ SmI (some g) W W') ∨ (e = .returned (.bool false) ∧ Jx (pre ++ [x]) W'))
    (W : World) (hBs : W.cell? ⟨Bs, 0, none⟩ = some (.pointer (some ⟨b, 0, none⟩))) (hq : W.cell? ⟨b, 1, none⟩ = some (.slice (some ⟨g, off, none⟩) zs.length cap))
    (hc : ∀ (j : Nat) (x : Int), zs[j]? = some x → W.cell? ⟨g, off + j, none⟩ = some (qEI x)) (h0 : J [] W) :
    CallsIn F n Try.prog 31 #[.func (.yield l) #[] #[], .pointer (some ⟨Bs, 0, none⟩)] W fun e W' => (∃ v, e = .returned v) ∧
      ((∃ ys, ys = zs ∧ J ys W') ∨ (∃ pre, pre <+: zs ∧ Jx pre W')) := by
  refine callsIn_of_wp Try.func31 rfl hf ?_ hro
  simp only [Try.ntmps31, List.size_toArray, List.length_cons, List.length_nil, Nat.reduceAdd, Nat.reduceSub, Array.replicate_succ, Array.replicate_zero, List.push_toArray, List.append_toArray, List.nil_append, List.cons_append]
  gi_wp2
  gi_loopw [10] (fun i wr => ∃ k : Nat, k ≤ zs.length ∧ i = .int .i64 (k : Int) ∧ J (zs.take k) wr ∧ SmI (some g) W wr)
    (fun i _ => zs.length - (intOf i).toNat)
  case atStart => exact ⟨0, Nat.zero_le _, rfl, h0, fun _ _ => rfl⟩
  case round =>
    obtain ⟨k, hk, rfl, hJs, hnx⟩ := hrel
    by_cases hlt : k < zs.length
    · obtain ⟨x, hx⟩ : ∃ x, zs[k]? = some x := ⟨_, List.getElem?_eq_getElem hlt⟩
      obtain ⟨hn1, he1⟩ := List.getElem?_eq_some_iff.1 hx
      have htk : zs.take (k + 1) = zs.take k ++ [x] := by rw [List.take_succ_eq_append_getElem hn1, he1]
      have c0 := (World.cell?_of_block (a := ⟨g, off + k, none⟩) (hnx g rfl)).trans (hc k x hx)
      obtain ⟨fn, tmps, assign, body, hy, hR⟩ := hY _ x _ hJs (by rw [List.length_take]; omega)
      have h1 : (0 : Int) ≤ (k : Int) := by omega
      have h2 : (k : Int) < (zs.length : Int) := by omega
      have TK := Lib.hid htk
      clear htk hx he1
      gi_wp2
      refine hR.mono ?_
      rintro e W3 (⟨rfl, hJ3, hk3⟩ | ⟨rfl, hJx3⟩)
      · gi_wp2
        go_roundw
        case rel => exact ⟨k + 1, by omega, by simp, by rw [TK.out]; exact hJ3, fun b e => (hk3 b e).trans (hnx b e)⟩
        case measure => simp [intOf]; omega
      · gi_wp2
        refine bodyPost_ret (results_none rfl _ _ _) rfl ?_
        exact ⟨⟨_, rfl⟩, .inr ⟨_, by rw [← TK.out]; exact List.take_prefix _ _, hJx3⟩⟩
    · obtain rfl : k = zs.length := by omega
      gi_wp2
      go_end0
      rw [List.take_length] at hJs
      exact ⟨⟨_, rfl⟩, .inl ⟨_, rfl, hJs⟩⟩
theorem eldest1I_nil_in (F : Fence) (n : Nat) (hf : F.fn 31) (hro : F.round = none) (l Bs : Nat) (J : List Int → World → Prop) (a : Option Addr) (c : Nat) (W : World) (hBs : W.cell? ⟨Bs, 0, none⟩ = some (.pointer (some ⟨b, 0, none⟩))) (hq : W.cell? ⟨b, 1, none⟩ = some (.slice a 0 c)) (h0 : J [] W) :
    CallsIn F n Try.prog 31 #[.func (.yield l) #[] #[], .pointer (some ⟨Bs, 0, none⟩)] W fun e W' => (∃ v, e = .returned v) ∧ J [] W' := by
  refine callsIn_of_wp Try.func31 rfl hf ?_ hro
  simp only [Try.ntmps31, List.size_toArray, List.length_cons, List.length_nil, Nat.reduceAdd, Nat.reduceSub, Array.replicate_succ, Array.replicate_zero, List.push_toArray, List.append_toArray, List.nil_append, List.cons_append]
  gi_wp2
  gi_loopw [10] (fun i wr => i = .int .i64 0 ∧ J [] wr) (fun _ _ => 0)
  case atStart => exact ⟨rfl, h0⟩
  case round =>
    obtain ⟨rfl, hJs⟩ := hrel
    gi_wp2
    go_end0
    exact ⟨⟨_, rfl⟩, hJs⟩
theorem eldestI_any (a : Option Addr) (w : World) :
    Calls Try.prog 27 #[.pointer a] w fun e w' => e = .returned (.func (.func 31) #[] #[.pointer (some ⟨w.heap.size, 0, none⟩)]) ∧ w' = w.alloc (.cells #[.pointer a] 39) := by
  go_enter Try.func27, Try.ntmps27
  go_wp2
  go_ret
  exact ⟨rfl, rfl⟩
/-- all of them, in order -/
theorem eldestI_stops (F : Fence) (n : Nat) (hf : F.fn 31) (hro : F.round = none) (hn : 1 ≤ n) (Bs : Nat) (w : World) (hBs : Bs < w.heap.size) (hp : w.cell? ⟨Bs, 0, none⟩ = some (.pointer (some ⟨b, 0, none⟩))) (h : QAI B w b most v o X) :
    SeqStopsK F n Try.prog 31 #[.pointer (some ⟨Bs, 0, none⟩)] (fun x : Int => #[qEI x]) (SmI o) (fun ys => ys = X) (fun pre => pre <+: X) X.length w := fun l J Jx W hW hJ _ hY h0 => by
  have hp' := (hW.cell (p := ⟨Bs, 0, none⟩) hBs).trans hp
  have h' : QAI B W b most v o X := h.below hW
  have hq := h'.at.cell 1 _ rfl
  have hfew := h.few
  have hmost := h.most
  rw [List.length_map] at hfew
  cases X with
  | nil =>
    obtain ⟨a, cap, rfl⟩ := h'.row.slice
    exact (eldest1I_nil_in F n hf hro l Bs J a cap W hp' hq h0).mono fun e W' ⟨he, hj⟩ => ⟨he, .inl ⟨_, rfl, hj⟩⟩
  | cons x t =>
    obtain ⟨g, off, cap, hv, ho, hbg, hcap, hc, hf'⟩ := h'.row.cons
    have hv1 : v = .slice (some ⟨g, off, none⟩) (List.map qEI (x :: t)).length cap := by rw [hv]; simp
    have hall : ∀ (j : Nat) (y : Int), (x :: t)[j]? = some y → W.cell? ⟨g, off + j, none⟩ = some (qEI y) := fun j y hy => h'.row.cell hv1 (by rw [List.getElem?_map, hy]; rfl)
    rw [List.length_map] at hv1
    subst ho
    rw [hv1] at hq
    exact (eldest1I_in F n hf hro hn l Bs g off cap (x :: t) (by omega) J Jx hY W hp' hq hall h0).mono fun e W' h => h
set_option maxHeartbeats 4000000 in
theorem allI_any (h : QAI B w b most v o X) : Calls Try.prog 17 #[.pointer (some ⟨b, 0, none⟩)] w fun e w' =>
    ∃ r, e = .returned r ∧ w'.ownsRow w.heap.size 2 1 r X.length (X.map qEI) ∧ Below w.heap.size w w' := by
  obtain ⟨i0, hi, hz0, hz1, hz2⟩ := info_parts infoI
  have HI := Lib.hid hi
  have HZ := Lib.hid hz0
  have HZ1 := Lib.hid hz1
  have HZ2 := Lib.hid hz2
  have H := Lib.hid h
  have hfew := h.few
  have hmost := h.most
  rw [List.length_map] at hfew
  have hXl : X.length ≤ 1024 := by omega
  have HO := Lib.hid (fun g (e : o = some g) => (h.foot g (by simp [e])).2)
  clear h hi hz0 hz1 hz2 hfew hmost
  refine (callsIn_wide (n := 9)).1 ?_
  refine callsIn_of_wp_marks Try.func17 rfl trivial ?_ rfl
  simp only [Try.ntmps17, List.size_toArray, List.length_cons, List.length_nil, Nat.reduceAdd, Nat.reduceSub, Array.replicate_succ, Array.replicate_zero, List.push_toArray, List.append_toArray, List.nil_append, List.cons_append]
  gi_wp2_with fail
  refine ⟨trivial, (callsIn_wide.2 (eldestI_any _ _)).mono ?_⟩
  rintro e w1 ⟨rfl, rfl⟩
  gi_wp2
  obtain ⟨W0, hW0⟩ : ∃ W0, (w.alloc (.cells #[.slice none 0 0] 37)).alloc (.cells #[.pointer (some ⟨b, 0, none⟩)] 39) = W0 := ⟨_, rfl⟩
  have hlp : Below w.heap.size w W0 := by rw [← hW0]; go_grown
  have hsz : W0.heap.size = w.heap.size + 2 := by rw [← hW0]; simp
  have bv0 : Boxed W0 w.heap.size 37 (.slice none 0 0) := by
    rw [← hW0]
    exact (Boxed.new w 37 (.slice none 0 0)).alloc _
  have bs0 : W0.cell? ⟨w.heap.size + 1, 0, none⟩ = some (.pointer (some ⟨b, 0, none⟩)) := by
    rw [← hW0]
    have h := Boxed.new (w.alloc (.cells #[.slice none 0 0] 37)) 39 (.pointer (some ⟨b, 0, none⟩))
    rw [World.size_alloc] at h
    exact h.cell
  have hseq := eldestI_stops Fence.wide 8 trivial rfl (by omega) (w.heap.size + 1) W0 (by omega) bs0 (H.out.below hlp)
  rw [hW0]
  clear hW0
  refine wpIn_rangeFunc_ownF (n := 9) rfl (by omega) (gf := 31) (lb := #[.pointer (some ⟨w.heap.size + 1, 0, none⟩)]) rfl trivial (enters_of Try.func31 (by kernel_rfl) rfl)
    hseq (fun h k b e => (k b e).trans (h b e)) (fun W l o1 o2 hl _ _ _ k e => World.putObj_heap_other (by have := HO.out k e; omega)) (Below.refl _ _) (fun _ => rfl)
    (fun pre W => (∃ r, Boxed W w.heap.size 37 r ∧ W.ownsRow w.heap.size 2 1 r pre.length (pre.map qEI) ∧ True) ∧ Below w.heap.size W0 W)
    (fun _ _ _ => False)
    (OwnFrom.and (Own.from (holdsRow_own w.heap.size w.heap.size 37 2 1 (fun (pre : List Int) => pre.length) (fun (pre : List Int) => pre.map qEI) (fun _ _ => True)) _) (ownFrom_below (by omega) (by omega)))
    (fun _ _ _ _ _ hs _ _ => hs)
    ⟨⟨_, bv0, World.ownsRow_nil _ _ _ _, trivial⟩, Below.refl _ _⟩
    (fun x => { tmps := #[.pointer (some ⟨b, 0, none⟩), undef, .slice none 0 0, .pointer (some ⟨w.heap.size, 0, none⟩), qEI x, .pointer (some ⟨b, 0, none⟩), .func (.func 31) #[] #[.pointer (some ⟨w.heap.size + 1, 0, none⟩)], qEI x, undef, undef, undef, undef, undef], defers := [] }) ?assign ?body ?done ?stop
  case assign =>
    intro l x W K hK
    gi_wp2
    exact hK
  case body =>
    rintro l pre x W ⟨⟨r, hbx, hrow, _⟩, hB⟩ hlt
    have hc := hbx.cell
    have hf := hbx.frozen
    have HB := Lib.hid hbx
    have HR := Lib.hid hrow
    have hW : w.heap.size < W.heap.size := hbx.lt
    clear hbx hrow
    gi_wp2_with (gi_at_builtin; refine wpListIn_append_own _ rfl _ _ 37 rfl w.heap.size 2 i0 (.int .i64 0) 1 8 Try.underlying37 HI.out HZ.out HZ1.out HZ2.out rfl (by decide) _ _ _ rfl (HR.out.alloc _) ⟨W.heap.size, 0, none⟩ 1 1 [qEI x] rfl rfl (cell_one_new _ _ _) ?k1 ?k2 ?k3 ?k4 ?_)
    case k1 => intro u hu; simp at hu; rcases hu with rfl; rfl
    case k2 => unfold maxLen; omega
    case k3 => omega
    case k4 => simp; omega
    intro v' w1' hown' hgrow _
    obtain ⟨g', cap', rfl⟩ := ownsRow_succ hown'
    obtain ⟨r1, r2, r3, r4, r5⟩ := HB.out.appended (by decide) HR.out (by omega) (Nat.le_refl _) hown' hgrow
    have hc1 := r1.cell
    have hf1 := r1.frozen
    clear hc hf hown' hgrow r1
    gi_wp2
    refine ⟨r4, fun k e => r5.block k (HO.out k e), ⟨_, r2, ?_, trivial⟩, hB.trans r5⟩
    rw [List.length_append, List.map_append]
    exact r3
  case done =>
    rintro D ys W hD rfl ⟨⟨r, hbx, hrow, _⟩, hB⟩ hK
    have hc := hbx.cell
    have HR := Lib.hid hrow
    clear hbx hrow
    gi_wp2
    refine ⟨by simp, .inl ⟨_, _, rfl, run_takeDeferred hK, ?_⟩⟩
    refine ⟨_, results_tmp rfl _ _ _, ?_⟩
    exact ⟨_, rfl, ownsRow_putObj HR.out _ hK rfl, (hlp.trans hB).trans ((Below.refl _ W).grown (grownBy_putObj' W D _) (by have := hB.size; omega) (fun k e => by cases e; omega))⟩
  case stop =>
    rintro D c pre W _ _ h _
    exact h.elim
end
end Go.Proofs.Ytdgjcahgoilahaa
