/- store: Range: where the ends are good. -/
import Derived.Test.YtedcdhngiofpjaaGreatDoorTf1
import Derived.Deep.MidRow
import Derived.Test.YtedcdhngiofpjaaGreatDoorMc
import Derived.Test.YtedcdhngiofpjaaGreatDoorTd1
namespace Go.Proofs.YtedcdhngiofpjaaGreatDoor
open Go Go.Proofs Go.RowKit Go.Shelf
set_option maxRecDepth 100000
attribute [local go_sem] cell_set Oper.semAt_some
/-- ahead of a round -/
structure RgI (S : Sto) (zs : List SLab) (sv : Value) (f t : Int) (w : World) (r : List (Int × Pa)) (V : World) (pre : List (Int × Pa)) : Prop where
  parts : rngP S zs f t = pre ++ r
  l : Boxed V (w.heap.size + 3) 24 sv
  s : Boxed V (w.heap.size + 2) 27 (.pointer (some ⟨S.b, 0, none⟩))
  f : Boxed V (w.heap.size + 4) 2 (.int .i64 f)
  t : Boxed V (w.heap.size + 5) 2 (.int .i64 t)
  p : V.heap[w.heap.size + 1]? = some (.cells (pnC (foldP pre)).toArray 55 (0, 0))
  z : V.heap[w.heap.size]? = some (.cells (pnC Pn.zero).toArray 55 (0, 0))
  B : Below w.heap.size w V
theorem RgI.ce {S : Sto} {zs : List SLab} {sv : Value} {f t : Int} {w V : World} {r pre : List (Int × Pa)} (h : RgI S zs sv f t w r V pre) (hS : StAt w S) (hL : Labs w.heap.size w sv zs) : CeP S zs sv f t (w.heap.size + 3) (w.heap.size + 2) (w.heap.size + 4) (w.heap.size + 5) V :=
  ⟨h.l, h.s, h.f, h.t, labs_on hL h.B, hS.below h.B⟩
theorem RgI.same {S : Sto} {zs : List SLab} {sv : Value} {f t : Int} {w A A' : World} {B : Nat} {M : List Nat} {r pre : List (Int × Pa)} (h : RgI S zs sv f t w r A pre) (q : Same B M A A') (hB : w.heap.size + 6 ≤ B) : RgI S zs sv f t w r A' pre :=
  ⟨h.parts, boxed_same h.l q (by omega), boxed_same h.s q (by omega), boxed_same h.f q (by omega), boxed_same h.t q (by omega),
   (q.block _ (.inl (by omega)) (Array.getElem?_eq_some_iff.1 h.p).1).trans h.p, (q.block _ (.inl (by omega)) (Array.getElem?_eq_some_iff.1 h.z).1).trans h.z,
   h.B.trans ⟨q.os, q.tape, q.output, q.size, fun k hk => q.block k (.inl (by omega)) (Nat.lt_of_lt_of_le hk h.B.size)⟩⟩
theorem At.pre14 {w : World} {b : Nat} {l l' : List Value} (h : At w b (l ++ l')) : At w b l :=
  ⟨h.lt, fun j v hj => h.cell j v (by rw [List.getElem?_append_left (List.getElem?_eq_some_iff.1 hj).1]; exact hj), fun j v hj => h.free j v (by rw [List.getElem?_append_left (List.getElem?_eq_some_iff.1 hj).1]; exact hj)⟩
theorem clC_at {w : World} {b : Nat} {L : List Nm} (h : w.heap[b]? = some (.cells (clC L) TC (0, 0))) : At w b (pnC (ofR L)) := by
  have := At.of_block h
  unfold clC at this
  rw [List.toList_toArray] at this
  exact this.pre14
/-- in a round: both panes -/
structure RgS (pb cb : Nat) (p q : Pn) (u : World) : Prop where
  P : At u pb (pnC p)
  C : At u cb (pnC q)
theorem RgS.below {pb cb : Nat} {p q : Pn} {u v : World} (h : RgS pb cb p q u) (hb : Below u.heap.size u v) : RgS pb cb p q v := ⟨h.P.below hb, h.C.below hb⟩
theorem get_mem14 {S : Sto} {V : World} (h : StAt V S) {k : List UInt8} {s : Sr} (hg : getL S.ss k = some s) : (k, s) ∈ S.ss := by
  rcases cut_at14 stoS S.ss k h.srt with ⟨v, q1, q2⟩ | ⟨q1, _⟩
  · rw [hg] at q1
    obtain rfl : s = v := by simpa using q1
    rw [q2]; simp
  · rw [hg] at q1; cases q1
theorem rngP_mem {S : Sto} {V : World} (h : StAt V S) {zs : List SLab} {f t : Int} {x : Int × Pa} (hx : x ∈ rngP S zs f t) : V.heap[x.2.blk]? = some (.cells (clC x.2.L) TC (0, 0)) ∧ OkP x := by
  unfold rngP at hx
  cases hg : getL S.ss (textL zs) with
  | none => rw [hg] at hx; cases hx
  | some s =>
    rw [hg] at hx
    have hx' : x ∈ s.ps := (List.mem_filter.1 hx).1
    have hs := h.ser _ (get_mem14 h hg)
    exact ⟨hs.cells x hx', hs.ok x hx'⟩
theorem rngP_len {S : Sto} {V : World} (h : StAt V S) (zs : List SLab) (f t : Int) : (rngP S zs f t).length ≤ 100 := by
  unfold rngP
  cases hg : getL S.ss (textL zs) with
  | none => show 0 ≤ 100; omega
  | some s => exact Nat.le_trans (List.length_filter_le _ _) (h.ser _ (get_mem14 h hg)).len
/-- the slots in a round -/
abbrev RgT (S : Sto) (a : Option Addr) (n c : Nat) (f t : Int) (N blk : Nat) : Array Value :=
  #[.pointer (some ⟨S.b, 0, none⟩), .slice a n c, .int .i64 f, .int .i64 t, undef, undef, undef, undef, .pointer (some ⟨N, 0, none⟩), .int .i64 0, .int .i64 0, .pointer (some ⟨N + 1, 0, none⟩), .pointer (some ⟨blk, 0, none⟩), .pointer (some ⟨S.b, 0, none⟩), .int .i64 f, .int .i64 t, .int .i64 0, .int .i64 0, .bool false, undef, undef,
    .pointer (some ⟨S.b, 0, none⟩), .slice a n c, .int .i64 f, .int .i64 t, .func (.func 86) #[] #[.pointer (some ⟨N + 3, 0, none⟩), .pointer (some ⟨N + 2, 0, none⟩), .pointer (some ⟨N + 4, 0, none⟩), .pointer (some ⟨N + 5, 0, none⟩)], .pointer (some ⟨blk, 0, none⟩), undef, undef, undef, undef, undef, undef, undef]
set_option maxHeartbeats 8000000 in
theorem range_good14 (S : Sto) (hg : 1 ≤ S.grid) (a : Option Addr) (n c : Nat) (zs : List SLab) (hz : zs.length ≤ 100) (hck : checkR zs = 0) (f t : Int) (hb : endsR S.grid f t = 0) (w : World) (h : StAt w S) (hI : Labs w.heap.size w (.slice a n c) zs) :
    CallsIn Fence.wide 9 Tryz.prog 19 #[.pointer (some ⟨S.b, 0, none⟩), .slice a n c, .int .i64 f, .int .i64 t] w fun e w' => e = .returned (.tuple #[(foldP (rngP S zs f t)).V, .int .i64 0]) ∧ Below w.heap.size w w' := by
  obtain ⟨W1, hW1⟩ : ∃ W1, W1 = w.alloc (.cells #[.int .i64 0, .int .i64 0, .int .u64 0, .int .i64 0, .int .i64 0, .int .i64 0, .int .i64 0, .int .i64 0, .int .i64 0] 55) := ⟨_, rfl⟩
  have hb1 : Below w.heap.size w W1 := by rw [hW1]; exact below_cells _
  have hs1 : W1.heap.size = w.heap.size + 1 := by rw [hW1]; simp
  have HC := Lib.hid (check_any14 S hg f t W1 (h.below hb1))
  rw [hb] at HC
  have HZ1 := Lib.hid (show W1.heap[w.heap.size]? = some (.cells (pnC Pn.zero).toArray 55 (0, 0)) by rw [hW1]; exact heap_alloc_new w _)
  have HS1 := Lib.hid hs1
  have HB1 := Lib.hid hb1
  have HH := Lib.hid h
  have HI := Lib.hid hI
  have HCl := Lib.hid (fun W => cells_any14 S.b a n c f t W)
  clear h hb hb1 hI hs1
  refine callsIn_of_wp_marks Tryz.func19 rfl trivial ?_ rfl
  simp only [Tryz.ntmps19, List.size_toArray, List.length_cons, List.length_nil, Nat.reduceAdd, Nat.reduceSub, Array.replicate_succ, Array.replicate_zero, List.push_toArray, List.append_toArray, List.nil_append, List.cons_append]
  gi_wp2_with fail
  rw [← hW1]
  refine ⟨trivial, (callsIn_wide.2 HC.out).mono ?_⟩
  rintro e w2 ⟨rfl, rfl⟩
  clear hW1
  obtain ⟨W2, hW2⟩ : ∃ W2, W2 = W1.alloc (.cells #[.int .i64 0, .int .i64 0, .int .u64 0, .int .i64 0, .int .i64 0, .int .i64 0, .int .i64 0, .int .i64 0, .int .i64 0] 55) := ⟨_, rfl⟩
  gi_wp2_with fail
  rw [← hW2]
  have hs2 : W2.heap.size = w.heap.size + 2 := by rw [hW2, World.size_alloc, HS1.out]
  have hCl := HCl.out W2
  rw [hs2] at hCl
  refine ⟨trivial, (callsIn_wide.2 hCl).mono ?_⟩
  clear hCl HCl
  rintro e w3 ⟨rfl, hw3⟩
  have hb2 : Below W1.heap.size W1 W2 := by rw [hW2]; exact below_cells _
  have hb3 : Below W2.heap.size W2 w3 := by rw [hw3]; go_grown
  have hB3 : Below w.heap.size w w3 := (HB1.out.trans (hb2.mono HB1.out.size)).trans (hb3.mono (by omega))
  have z3 : w3.heap[w.heap.size]? = some (.cells (pnC Pn.zero).toArray 55 (0, 0)) := (hb3.block _ (by omega)).trans ((hb2.block _ (by rw [HS1.out]; omega)).trans HZ1.out)
  have p3 : w3.heap[w.heap.size + 1]? = some (.cells (pnC Pn.zero).toArray 55 (0, 0)) := (hb3.block _ (by omega)).trans (by
    have := heap_alloc_new W1 (.cells #[.int .i64 0, .int .i64 0, .int .u64 0, .int .i64 0, .int .i64 0, .int .i64 0, .int .i64 0, .int .i64 0, .int .i64 0] 55)
    rw [HS1.out] at this
    rw [hW2]; exact this)
  have hce : CeP S zs (.slice a n c) f t (w.heap.size + 3) (w.heap.size + 2) (w.heap.size + 4) (w.heap.size + 5) w3 := by
    refine ⟨?_, ?_, ?_, ?_, labs_on HI.out hB3, HH.out.below hB3⟩
    · rw [hw3]
      have q := Boxed.new (W2.alloc (.cells #[.pointer (some ⟨S.b, 0, none⟩)] 27)) 24 (.slice a n c)
      rw [World.size_alloc, hs2] at q
      exact (q.alloc _).alloc _
    · rw [hw3]
      have q := Boxed.new W2 27 (.pointer (some ⟨S.b, 0, none⟩))
      rw [hs2] at q
      exact ((q.alloc _).alloc _).alloc _
    · rw [hw3]
      have q := Boxed.new ((W2.alloc (.cells #[.pointer (some ⟨S.b, 0, none⟩)] 27)).alloc (.cells #[.slice a n c] 24)) 2 (.int .i64 f)
      rw [World.size_alloc, World.size_alloc, hs2] at q
      exact q.alloc _
    · rw [hw3]
      have q := Boxed.new (((W2.alloc (.cells #[.pointer (some ⟨S.b, 0, none⟩)] 27)).alloc (.cells #[.slice a n c] 24)).alloc (.cells #[.int .i64 f] 2)) 2 (.int .i64 t)
      rw [World.size_alloc, World.size_alloc, World.size_alloc, hs2] at q
      exact q
  have hs3 : w3.heap.size = w.heap.size + 6 := by rw [hw3, World.size_alloc, World.size_alloc, World.size_alloc, World.size_alloc, hs2]
  clear hw3 hW2 hb2 hb3 hs2 HB1 HZ1 HC
  have h0 : RgI S zs (.slice a n c) f t w (rngP S zs f t) w3 [] := ⟨rfl, hce.l, hce.s, hce.f, hce.t, p3, z3, hB3⟩
  have H0 := Lib.hid h0
  have HN := Lib.hid hs3
  clear hce p3 z3 hB3 h0 hs3
  gi_wp2
  rw [HS1.out]
  clear HS1
  refine rangeG (F := Fence.wide) (n := 9) (γ := Unit) rfl (by omega) (gf := 86) (lb := #[.pointer (some ⟨w.heap.size + 3, 0, none⟩), .pointer (some ⟨w.heap.size + 2, 0, none⟩), .pointer (some ⟨w.heap.size + 4, 0, none⟩), .pointer (some ⟨w.heap.size + 5, 0, none⟩)]) rfl trivial (enters_of Tryz.func86 (by kernel_rfl) rfl)
    (seqG_depth (cells_stops (fun _ : Unit => []) S zs a n c f t (w.heap.size + 3) (w.heap.size + 2) (w.heap.size + 4) (w.heap.size + 5) hz hck w3)) (Below.refl _ _) (fun _ => rfl)
    (fun r _ V => ∃ pre, RgI S zs (.slice a n c) f t w r V pre)
    (fun _ _ _ => False)
    () (fun r c A A' hi q => by obtain ⟨pre, hi⟩ := hi; exact ⟨pre, hi.same q (by rw [HN.out]; exact Nat.le_refl _)⟩)
    (fun _ _ _ _ hi _ => hi)
    (fun _ hk => nomatch hk) ⟨[], H0.out⟩
    (fun r _ V hi => by obtain ⟨pre, hi⟩ := hi; exact hi.ce HH.out HI.out)
    (fun x a' _ => a' = { tmps := RgT S a n c f t w.heap.size x.2.blk, defers := [] })
    (fun x a' A A' hx _ => hx) ?assign ?body ?done (fun _ _ _ _ _ hf => hf.elim)
  case assign =>
    rintro l' st x st' _ V K hI hnx _ hK
    have HI := Lib.hid hI
    clear hI
    gi_wp2
    exact hK _ _ (Step.refl (fun _ q => nomatch q)) HI.out rfl
  case body =>
    rintro l' r x r' _ a' V hl _ _ ⟨pre, q⟩ hnx rfl
    obtain ⟨e0, rfl⟩ : ∃ e0 : Int × Pa, r = x :: r' := by
      cases r with
      | nil => cases hnx
      | cons e0 r0 => obtain ⟨rfl, rfl⟩ : e0 = x ∧ r0 = r' := by simpa [nxP] using hnx
                      exact ⟨e0, rfl⟩
    clear hnx
    have hst := (q.ce HH.out HI.out).st
    have hxm : x ∈ rngP S zs f t := by rw [q.parts]; simp
    obtain ⟨hcx, hok⟩ := rngP_mem hst hxm
    have hpo : ∀ e ∈ pre, OkP e := fun e he => (rngP_mem hst (by rw [q.parts]; simp [he])).2
    have hlen := rngP_len hst zs f t
    rw [q.parts, List.length_append, List.length_cons] at hlen
    have bd1 := foldP_bd pre hpo (by omega)
    have bd2 : Bd x.2.L.length (ofR x.2.L) := ofR_bd x.2.L hok.i64 (by have := hok.len; omega)
    have hM := Lib.hid (fun W => merge_any (foldP pre) (ofR x.2.L) bd1 bd2 (by have := flat_len pre (fun e he => (hpo e he).len); have := hok.len; omega) W)
    have hpr := Lib.hid (foldP_snoc pre x)
    have hS0 : RgS (w.heap.size + 1) x.2.blk (foldP pre) (ofR x.2.L) V := ⟨by have := At.of_block q.p; rwa [List.toList_toArray] at this, clC_at hcx⟩
    have hP0 := Lib.hid q.p
    have HQ := Lib.hid q
    clear q hst hxm hcx hok hpo hlen bd1 bd2
    unfold Pn.V at hM
    generalize foldP pre = pa at *
    generalize ofR x.2.L = pb at *
    generalize mergeR pa pb = pr at *
    generalize x.2.blk = cb at *
    unfold RgT
    dsimp only
    gi_wp2_with fail
    refine wpIn_mono ?_ NoPanic.imp
    refine region_anyM (S := RgS (w.heap.size + 1) cb pa pb) 6 (by kernel_rfl) (fun hS => ?_) (show RgS _ _ _ _ V.drew from ⟨hS0.P.drew, hS0.C.drew⟩)
    clear hS0
    refine anyM_c 0 [0, 5, 6] hS (fun u h => (show At u (w.heap.size + 1) [_, _, _, _, _, _, _, _, _] from h.P).f9) ?_
    refine anyM_d 1 [1, 2, 3, 4, 5, 6] hS ?_
    refine anyM_d 2 [2, 3, 4, 5, 6] hS ?_
    refine anyM_d 3 [3, 4, 5, 6] hS ?_
    refine anyM_c 4 [4, 5, 6] hS (fun u h => (show At u cb [_, _, _, _, _, _, _, _, _] from h.C).f9) ?_
    refine anyM_o 5 (fun K hK => ?_)
    go_simp
    refine ⟨trivial, ?_⟩
    refine (callsIn_wide.2 (hM.out _)).mono ?_
    rintro e w1 ⟨rfl, hb1⟩
    have hM1 := hS.below hb1
    have HB1 := Lib.hid (show Below V.heap.size V w1 from ((Below.refl _ V).drew).trans hb1)
    dsimp only
    refine hK _ _ hM1 ?_
    clear hS
    have hS := hM1
    clear hM1 hK K hM hb1
    refine anyM_l (fun K hK => ?_)
    have f9 := (show At w1 (w.heap.size + 1) [_, _, _, _, _, _, _, _, _] from hS.P).f9
    go_simp
    refine hK _ _ ?_
    clear hK K
    refine anyIn_done (by kernel_rfl) ?_ _
    refine NoPanic.normal ?_
    have hp1 : w1.heap[w.heap.size + 1]? = some (.cells (pnC pa).toArray 55 (0, 0)) := (HB1.out.block _ (Array.getElem?_eq_some_iff.1 hP0.out).1).trans hP0.out
    have hsp := setCells_splice (w.heap.size + 1) (pnC pr) 0 w1 _ hp1 (by simp [pnC])
    have htn := Lib.hid (setCells_turn (w.heap.size + 1) (pnC pr) 0 w1)
    have hsp2 := Lib.hid (show (w1.setCells (w.heap.size + 1) 0 (pnC pr)).heap[w.heap.size + 1]? = some (.cells (pnC pr).toArray 55 (0, 0)) by
      rw [hsp]; simp [pnC])
    obtain ⟨w2, hw2⟩ : ∃ w2, w2 = w1.setCells (w.heap.size + 1) 0 (pnC pr) := ⟨_, rfl⟩
    rw [← hw2] at htn hsp2
    unfold pnC at hw2
    simp only [World.setCells] at hw2
    rw [← hw2]
    clear hw2 hsp f9 hS hp1
    gi_wp2
    have hq := HQ.out
    have hb2 : Turn [w.heap.size + 1] V w2 := (Turn.of_below HB1.out [w.heap.size + 1]).trans htn.out (fun _ q => .inl q)
    have n1 : ∀ k, k ≠ w.heap.size + 1 → k ∉ [w.heap.size + 1] := fun k h q => h (List.mem_singleton.1 q)
    refine ⟨(), ⟨pre ++ [x], ⟨by rw [hq.parts]; simp, hb2.at (n1 _ (by omega)) hq.l, hb2.at (n1 _ (by omega)) hq.s, hb2.at (n1 _ (by omega)) hq.f, hb2.at (n1 _ (by omega)) hq.t, ?_, hb2.at (n1 _ (by omega)) hq.z, hq.B.trans (hb2.below (fun b hb => by rw [List.mem_singleton.1 hb]; omega) hq.B.size)⟩⟩, ⟨hb2.size, fun k o hk _ ho => hb2.at (n1 _ (by have := HN.out; omega)) ho, fun _ q => .inl q, fun _ q => nomatch q⟩⟩
    rw [hpr.out]; exact hsp2.out
  case done =>
    rintro D r _ V hD hnx ⟨pre, q⟩ _ hDl
    obtain rfl : r = [] := by
      cases r with
      | nil => rfl
      | cons _ _ => cases hnx
    have hf : foldP pre = foldP (rngP S zs f t) := by rw [q.parts, List.append_nil]
    have qp := q.p
    rw [hf] at qp
    have hne0 : w.heap.size ≠ D := by have := HN.out; omega
    have hne1 : w.heap.size + 1 ≠ D := by have := HN.out; omega
    have HB := Lib.hid q.B
    have z9 := (show At V w.heap.size [_, _, _, _, _, _, _, _, _] from by have := At.of_block q.z; rwa [List.toList_toArray] at this).f9
    have p9 := (show At V (w.heap.size + 1) [_, _, _, _, _, _, _, _, _] from by have := At.of_block qp; rwa [List.toList_toArray] at this).f9
    have hzb := Lib.hid q.z
    clear q hf qp H0 HH HI
    generalize hpr : foldP (rngP S zs f t) = pr at *
    have Hpr := Lib.hid hpr
    clear hnx hpr
    gi_wp2
    rw [Hpr.out]
    obtain ⟨W2, hW2⟩ : ∃ W2, W2 = V.setCells w.heap.size 0 (pnC pr) := ⟨_, rfl⟩
    have hz2 : W2.heap[w.heap.size]? = some (.cells (pnC pr).toArray 55 (0, 0)) := by
      have := setCells_splice w.heap.size (pnC pr) 0 V _ hzb.out (by simp [pnC])
      rw [hW2, this]; simp [pnC]
    have hT2 : Turn [w.heap.size] V W2 := by rw [hW2]; exact setCells_turn w.heap.size (pnC pr) 0 V
    have hD2 : W2.heap[D]? = some (.deferred (some [])) := hT2.at (fun q => hne0 (List.mem_singleton.1 q).symm) hDl
    have hB2 := HB.out.trans (hT2.below (fun b hb => by rw [List.mem_singleton.1 hb]; exact Nat.le_refl _) HB.out.size)
    unfold pnC at hW2
    simp only [World.setCells] at hW2
    rw [← hW2]
    clear hW2
    refine ⟨by simp, .inl ⟨_, _, rfl, run_takeDeferred hD2, ?_⟩⟩
    have hz3 : (W2.putObj D (.deferred none)).heap[w.heap.size]? = some (.cells (pnC pr).toArray 55 (0, 0)) := (World.putObj_heap_other hne0).trans hz2
    have z9 := (show At (W2.putObj D (.deferred none)) w.heap.size [_, _, _, _, _, _, _, _, _] from by have := At.of_block hz3; rwa [List.toList_toArray] at this).f9
    have hlast : Below w.heap.size w (W2.putObj D (.deferred none)) := hB2.trans ⟨rfl, rfl, rfl, by simp, fun k hk => World.putObj_heap_other (by have := HN.out; omega)⟩
    exact ⟨_, by simp [results, Tryz.results19, go_sem, z9]; rfl, rfl, hlast⟩
end Go.Proofs.YtedcdhngiofpjaaGreatDoor
/- store: Hist: what is shared; where the ends are not good. -/
namespace Go.Proofs.YtedcdhngiofpjaaGreatDoor
open Go Go.Proofs Go.RowKit Go.Shelf
set_option maxRecDepth 100000
attribute [local go_sem] cell_set Oper.semAt_some
def hisP (ps : List (Int × Pa)) : List Int := histR (vals (ps.flatMap fun e => e.2.L))
theorem vals_app (a b : List Nm) : vals (a ++ b) = vals a ++ vals b := by simp [vals]
theorem all64_vals {l : List Nm} (h : ∀ x ∈ l, I64 x.v) : All64 (vals l) := fun v hv => by
  obtain ⟨x, hx, rfl⟩ := List.mem_map.1 hv
  exact h x hx
theorem flat_i64 {ps : List (Int × Pa)} (h : ∀ e ∈ ps, OkP e) : ∀ x ∈ ps.flatMap (fun e => e.2.L), I64 x.v := fun x hx => by
  obtain ⟨e, he, hx⟩ := List.mem_flatMap.1 hx
  exact (h e he).i64 x hx
theorem hisP_snoc {ps : List (Int × Pa)} {e : Int × Pa} (h : ∀ e ∈ ps, OkP e) (he : OkP e) : hisP (ps ++ [e]) = mergeH (hisP ps) (histR (vals e.2.L)) := by
  unfold hisP
  rw [merge_hist (all64_vals (flat_i64 h)) (all64_vals he.i64), List.flatMap_append, vals_app]
  simp
theorem vals_len (l : List Nm) : (vals l).length = l.length := by simp [vals]
theorem hisP_small {ps : List (Int × Pa)} (h : ∀ e ∈ ps, OkP e) (hl : ps.length ≤ 100) : Small (hisP ps) := histR_small (all64_vals (flat_i64 h)) (by
  rw [vals_len]
  have := flat_len ps (fun e he => (h e he).len)
  omega)
theorem results_cell_tmp {P : Program} {fn : Func} {p q : Tmp} {ty : TypeId} (h : fn.results = #[.cell p ty, .tmp q]) (tmps : Array Value) (w : World) (g : Nat) (t : TypeId) (cs : Array Value) (fr : Nat × Nat) (d : TypeDesc) (v : Value)
    (hp : tmps.getD p undef = .pointer (some ⟨g, 0, none⟩)) (hg : w.heap[g]? = some (.cells cs t fr))
    (hu : P.underlying ty = some d) (hd : (match d with | .struct _ | .array _ _ => true | _ => false) = true) (hi : (P.info? ty).map (·.size) = some cs.size) (hv : tmps.getD q undef = v) :
    (results fn tmps).run P w = .ok (.tuple #[.agg cs, v]) w := by
  have hp' : tmps[p]?.getD undef = .pointer (some ⟨g, 0, none⟩) := by simpa using hp
  have hv' : tmps[q]?.getD undef = v := by simpa using hv
  simp [results, h, hp', hv', asAddr, run_loadVar_row w g t ty cs fr d hg hu hd hi]
section
variable {ops : Array Oper} {o : Oper} {a : Act} {w : World} {U T : TypeId} {x y : Operand} {b : Nat} {h g : List Int} {F : Fence} {n : Nat} {K : Act → World → Prop} {Q : Exit → Act → World → Prop}
theorem stO_row (R : Row65 U) (H : HAt T w b h) (ho : o.op = .store U x y) (hx : a.eval x = .pointer (some ⟨b, 0, none⟩)) (hy : a.eval y = .agg (hc g)) (hg : g.length = 65)
    (k : K (a.put o.dst undef) (w.setRow b (hc g))) : o.wpIn F n Tryz.prog a w K Q := by
  unfold Oper.wpIn
  refine ⟨by simp [Oper.about, ho], ?_⟩
  rw [Oper.semAt_plain F _ _ (by rw [ho]; intro c hc'; cases hc')]
  simp only [execOp, ho, hx, hy, Instr.storeAt, Instr.sureAddr, Sem.run_bind, Sem.run_pure, Result.andThen_ok, run_storeVar_row w b T U (hc h) (hc g) H.blk (R.size hg) (by rw [hc_size, hc_size, H.len, hg]) (hc_one g)]
  exact k
theorem ldY_row {C : World → Prop} (hC : ∀ u, C u → HAt T u b h) (R : Row65 U) (hw : Region.wanted o (yielded ops a.tmps) = true) (ho : o.op = .load U x) (hx : a.eval x = .pointer (some ⟨b, 0, none⟩)) :
    YieldsIf Tryz.prog ops C o (.agg (hc h)) a := by
  refine .inl ⟨hw, fun w hw => ?_⟩
  have H := hC w hw
  unfold execOp
  simp only [ho, hx, Instr.loadAt, Instr.sureAddr, Sem.run_bind, Sem.run_pure, Result.andThen_ok, run_loadVar_row w b _ _ (hc h) (0, 0) _ H.blk R.und rfl (R.size H.len)]
end
/-- the counts behind a pane -/
theorem clC_hist {w : World} {b : Nat} {L : List Nm} {T : TypeId} (h : w.heap[b]? = some (.cells (clC L) T (0, 0))) : w.rangeAt b 9 ((histR (vals L)).map (Value.int .i64)) := by
  intro j v hj
  rw [cell_of_row w b (9 + j) _ _ _ h]
  unfold clC pnC
  rw [List.getElem?_toArray, List.getElem?_append_right (by simp)]
  simpa using hj
theorem hist_bad14 (S : Sto) (hg : 1 ≤ S.grid) (a : Option Addr) (n c : Nat) (f t : Int) (hb : endsR S.grid f t = 1) (w : World) (h : StAt w S) :
    CallsIn Fence.wide 9 Tryz.prog 20 #[.pointer (some ⟨S.b, 0, none⟩), .slice a n c, .int .i64 f, .int .i64 t] w fun e w' => e = .returned (.tuple #[.agg (hc zs65), .int .i64 1]) ∧ Below w.heap.size w w' := by
  obtain ⟨W1, hW1⟩ : ∃ W1, W1 = w.alloc (.cells (hc zs65) 59) := ⟨_, rfl⟩
  have hb1 : Below w.heap.size w W1 := by rw [hW1]; exact below_cells _
  have HC := Lib.hid (check_any14 S hg f t W1 (h.below hb1))
  rw [hb] at HC
  have A1 : HAt 59 W1 w.heap.size zs65 := by rw [hW1]; exact hat_new w _ zs65_len
  have HB1 := Lib.hid hb1
  have hz := zeroH
  have hzs := hc_size zs65
  have hzn := hc_ne zs65_len
  clear h hb hb1
  refine callsIn_of_wp_marks Tryz.func20 rfl trivial ?_ rfl
  simp only [Tryz.ntmps20, List.size_toArray, List.length_cons, List.length_nil, Nat.reduceAdd, Nat.reduceSub, Array.replicate_succ, Array.replicate_zero, List.push_toArray, List.append_toArray, List.nil_append, List.cons_append]
  gi_wp2_with fail
  rw [← hW1]
  refine ⟨trivial, (callsIn_wide.2 HC.out).mono ?_⟩
  rintro e w2 ⟨rfl, rfl⟩
  clear hW1
  gi_wp2_with (first | (refine stI_row rowH A1 rfl rfl rfl rfl zs65_len ?_) | fail)
  have A2 := A1.row (g := zs65) zs65_len
  refine ⟨_, results_cell_tmp (p := 8) (q := 9) (ty := 59) rfl _ _ w.heap.size 59 _ (0, 0) _ _ rfl A2.blk rowH.und rfl (rowH.size zs65_len) rfl, ?_⟩
  exact ⟨rfl, below_row HB1.out (Nat.le_refl _) _⟩
end Go.Proofs.YtedcdhngiofpjaaGreatDoor
/- store: mathematics: what is looked up in a sorted list behind a put. It speaks of no program. -/
namespace Go.Proofs.YtedcdhngiofpjaaGreatDoor
set_option maxRecDepth 100000
section
variable {K V : Type} [DecidableEq K] {lt : K → K → Bool}
theorem getL_append {A B : List (K × V)} {k : K} : getL (A ++ B) k = (getL A k).or (getL B k) := by
  unfold getL
  rw [List.find?_append]
  cases A.find? (fun e => decide (e.1 = k)) <;> rfl
theorem getL_cons {e : K × V} {B : List (K × V)} {k : K} : getL (e :: B) k = if e.1 = k then some e.2 else getL B k := by
  unfold getL
  rw [List.find?_cons]
  by_cases h : e.1 = k
  · simp [h]
  · simp [h]
theorem getL_filter {es : List (K × V)} {k : K} (p : K → Bool) : getL (es.filter fun e => p e.1) k = if p k then getL es k else none := by
  induction es with
  | nil => unfold getL; simp
  | cons e t ih =>
    rw [List.filter_cons]
    by_cases hp : p e.1 = true
    · rw [if_pos hp, getL_cons, getL_cons, ih]
      by_cases h : e.1 = k
      · rw [if_pos h, if_pos h, ← h, if_pos hp]
      · rw [if_neg h, if_neg h]
    · rw [if_neg hp, ih, getL_cons]
      by_cases h : e.1 = k
      · rw [← h, if_neg hp, if_neg hp]
      · rw [if_neg h]
/-- what is looked up behind a put -/
theorem getL_put (H : STO lt) (es : List (K × V)) (k : K) (v : V) (j : K) : getL (putL lt es k v) j = if j = k then some v else getL es j := by
  unfold putL
  rw [getL_append, getL_cons]
  unfold loL hiL
  rw [getL_filter (fun x => lt x k), getL_filter (fun x => lt k x)]
  by_cases h : j = k
  · subst h
    rw [if_pos rfl, if_pos rfl, H.irr]; rfl
  · have hk : ¬ k = j := fun e => h e.symm
    rw [if_neg hk, if_neg h]
    cases q : lt j k with
    | true =>
      rw [H.asym q, if_pos rfl, if_neg (by simp)]
      cases getL es j <;> rfl
    | false =>
      cases z : lt k j with
      | false => exact absurd (H.tri j k q z) h
      | true => rw [if_neg (by simp), if_pos rfl]; rfl
end
end Go.Proofs.YtedcdhngiofpjaaGreatDoor
/- store: mathematics: what a store holds, against the plain row of what was put. -/
namespace Go.Proofs.YtedcdhngiofpjaaGreatDoor
open Go Go.Proofs
set_option maxRecDepth 100000
abbrev RowE := List SLab × Nm
def look (C : List Con) (k : List UInt8) (e : Int) : List Nm := match getL C k with | some c => (getL c.2 e).getD [] | none => []
def sel (g : Int) (R : List RowE) (k : List UInt8) (e : Int) : List Nm := (R.filter fun r => decide (textL r.1 = k) && decide (endR g r.2.t = e)).map (·.2)
/-- a store's content is a row's -/
structure Rel (g : Int) (C : List Con) (R : List RowE) : Prop where
  look : ∀ k e, look C k e = sel g R k e
  full : ∀ c ∈ C, c.2.2 ≠ [] ∧ ∀ p ∈ c.2.2, p.2 ≠ []
theorem sel_snoc (g : Int) (R : List RowE) (r : RowE) (k : List UInt8) (e : Int) : sel g (R ++ [r]) k e = sel g R k e ++ (if textL r.1 = k ∧ endR g r.2.t = e then [r.2] else []) := by
  unfold sel
  rw [List.filter_append, List.map_append]
  congr 1
  by_cases h : textL r.1 = k ∧ endR g r.2.t = e
  · rw [if_pos h, List.filter_cons_of_pos (by simp [h.1, h.2])]; rfl
  · rw [if_neg h, List.filter_cons_of_neg (by simpa using h)]; rfl
theorem rel_nil (g : Int) : Rel g [] [] := ⟨fun _ _ => rfl, fun _ h => (nomatch h)⟩
theorem put_mem {K V : Type} [DecidableEq K] {lt : K → K → Bool} {es : List (K × V)} {k : K} {v : V} {e : K × V} (h : e ∈ putL lt es k v) : e = (k, v) ∨ e ∈ es := by
  unfold putL loL hiL at h
  rcases List.mem_append.1 h with q | q
  · exact .inr (List.mem_filter.1 q).1
  · rcases List.mem_cons.1 q with q | q
    · exact .inl q
    · exact .inr (List.mem_filter.1 q).1
theorem get_mem {K V : Type} [DecidableEq K] {es : List (K × V)} {k : K} {v : V} (h : getL es k = some v) : (k, v) ∈ es := by
  unfold getL at h
  cases q : es.find? (fun e => decide (e.1 = k)) with
  | none => rw [q] at h; cases h
  | some e =>
    rw [q] at h
    have h1 : e.2 = v := by simpa using h
    have h2 := List.find?_some q
    have h3 := List.mem_of_find?_eq_some q
    have h4 : e.1 = k := by simpa using h2
    rw [← h1, ← h4]; exact h3
theorem rel_put {g : Int} {C : List Con} {R : List RowE} (h : Rel g C R) (zs : List SLab) (x : Nm) : Rel g (putC g C zs x) (R ++ [(zs, x)]) := by
  refine ⟨fun k e => ?_, fun c hc => ?_⟩
  · rw [sel_snoc, ← h.look]
    unfold putC
    cases hg : getL C (textL zs) with
    | none =>
      dsimp only
      unfold look
      rw [getL_put stoS]
      by_cases hk : k = textL zs
      · subst hk
        rw [if_pos rfl, hg]
        dsimp only
        rw [getL_cons]
        by_cases he : endR g x.t = e
        · rw [if_pos he, if_pos ⟨rfl, he⟩]; rfl
        · rw [if_neg he, if_neg (fun q => he q.2)]; rfl
      · rw [if_neg hk, if_neg (fun q => hk q.1.symm), List.append_nil]
    | some c =>
      obtain ⟨ls, ps⟩ := c
      dsimp only
      unfold look
      rw [getL_put stoS]
      by_cases hk : k = textL zs
      · subst hk
        rw [if_pos rfl, hg]
        dsimp only
        rw [getL_put stoI]
        by_cases he : e = endR g x.t
        · rw [if_pos he, if_pos ⟨rfl, he.symm⟩, he]; rfl
        · rw [if_neg he, if_neg (fun q => he q.2.symm), List.append_nil]
      · rw [if_neg hk, if_neg (fun q => hk q.1.symm), List.append_nil]
  · unfold putC at hc
    cases hg : getL C (textL zs) with
    | none =>
      rw [hg] at hc
      rcases put_mem hc with rfl | q
      · exact ⟨by simp, fun p hp => by rw [List.mem_singleton.1 hp]; simp⟩
      · exact h.full c q
    | some d =>
      obtain ⟨ls, ps⟩ := d
      rw [hg] at hc
      rcases put_mem hc with rfl | q
      · refine ⟨by simp [putL], fun p hp => ?_⟩
        rcases put_mem hp with rfl | z
        · simp
        · exact (h.full _ (get_mem hg)).2 p z
      · exact h.full c q
theorem getL_filterMap {V W : Type} {es : List (List UInt8 × V)} {f : V → Option W} (hs : Srt ltS es) (k : List UInt8) : getL (es.filterMap fun e => (f e.2).map fun w => (e.1, w)) k = (getL es k).bind f := by
  induction es with
  | nil => rfl
  | cons e t ih =>
    obtain ⟨h1, h2⟩ := List.pairwise_cons.1 hs
    rw [getL_cons]
    cases hf : f e.2 with
    | none =>
      rw [List.filterMap_cons_none (by rw [hf]; rfl), ih h2]
      by_cases hk : e.1 = k
      · rw [if_pos hk]
        show _ = f e.2
        rw [hf]
        have : getL t k = none := by
          cases z : getL t k with
          | none => rfl
          | some v =>
            have := h1 _ (get_mem z)
            dsimp only at this
            rw [hk, stoS.irr] at this; cases this
        rw [this]; rfl
      · rw [if_neg hk]
    | some w =>
      rw [List.filterMap_cons_some (b := (e.1, w)) (by rw [hf]; rfl), getL_cons]
      by_cases hk : e.1 = k
      · rw [if_pos hk, if_pos hk]; exact hf.symm
      · rw [if_neg hk, if_neg hk, ih h2]
def evV (T : Int) (v : List SLab × List (Int × List Nm)) : Option (List SLab × List (Int × List Nm)) := if evP T v.2 = [] then none else some (v.1, evP T v.2)
theorem evC_form (T : Int) : evC T = fun e : Con => (evV T e.2).map fun w => (e.1, w) := by
  funext c
  unfold evC evV
  by_cases h : evP T c.2.2 = []
  · simp [h]
  · simp [h]
/-- Evict lets the row's samples go whose panes do not end above T -/
theorem rel_ev {g : Int} {C : List Con} {R : List RowE} (h : Rel g C R) (hs : Srt ltS C) (T : Int) : Rel g (C.filterMap (evC T)) (R.filter fun r => decide (T < endR g r.2.t)) := by
  refine ⟨fun k e => ?_, fun c hc => ?_⟩
  · have h0 := h.look k e
    have hsel : sel g (R.filter fun r => decide (T < endR g r.2.t)) k e = if T < e then sel g R k e else [] := by
      unfold sel
      rw [List.filter_filter]
      by_cases hT : T < e
      · rw [if_pos hT]
        congr 1
        apply List.filter_congr
        intro r _
        by_cases q : endR g r.2.t = e
        · simp [q, hT]
        · simp [q]
      · rw [if_neg hT, List.map_eq_nil_iff, List.filter_eq_nil_iff]
        intro r _ z
        simp only [Bool.and_eq_true, decide_eq_true_eq] at z
        obtain ⟨⟨_, z1⟩, z2⟩ := z
        rw [z1] at z2; exact hT z2
    rw [hsel, ← h0]
    unfold look
    rw [evC_form, getL_filterMap hs]
    cases hg : getL C k with
    | none => simp
    | some c =>
      rw [Option.bind_some]
      unfold evV
      by_cases hE : evP T c.2 = []
      · rw [if_pos hE]
        dsimp only
        by_cases hT : T < e
        · rw [if_pos hT]
          have : getL (evP T c.2) e = getL c.2 e := by
            have := getL_filter (es := c.2) (k := e) (fun x => decide (T < x))
            rw [if_pos (by simpa using hT)] at this
            exact this
          rw [hE] at this
          rw [← this]; rfl
        · rw [if_neg hT]
      · rw [if_neg hE]
        dsimp only
        have := getL_filter (es := c.2) (k := e) (fun x => decide (T < x))
        have h2 : getL (evP T c.2) e = if decide (T < e) = true then getL c.2 e else none := this
        rw [h2]
        by_cases hT : T < e
        · rw [if_pos hT, if_pos (by simpa using hT)]
        · rw [if_neg hT, if_neg (by simpa using hT)]; rfl
  · obtain ⟨d, hd, q⟩ := List.mem_filterMap.1 hc
    unfold evC at q
    split at q
    · cases q
    · rename_i hne
      obtain rfl := Option.some.inj q
      exact ⟨hne, fun p hp => (h.full d hd).2 p (List.mem_filter.1 hp).1⟩
end Go.Proofs.YtedcdhngiofpjaaGreatDoor
