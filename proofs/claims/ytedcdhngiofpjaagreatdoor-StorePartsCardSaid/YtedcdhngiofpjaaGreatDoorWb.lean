/- store: mathematics: how many samples a store holds. -/
import Derived.Test.YtedcdhngiofpjaaGreatDoorVb
import Derived.Test.YtedcdhngiofpjaaGreatDoorTh1
namespace Go.Proofs.YtedcdhngiofpjaaGreatDoor
open Go Go.Proofs
set_option maxRecDepth 100000
def cntS (p : Int → Bool) (ps : List (Int × List Nm)) : Nat := ((ps.filter fun e => p e.1).map fun e => e.2.length).sum
def cntC (p : Int → Bool) (C : List Con) : Nat := (C.map fun c => cntS p c.2.2).sum
theorem cntS_app (p : Int → Bool) (a b : List (Int × List Nm)) : cntS p (a ++ b) = cntS p a + cntS p b := by simp [cntS]
theorem cntS_cons (p : Int → Bool) (e : Int × List Nm) (b : List (Int × List Nm)) : cntS p (e :: b) = (if p e.1 then e.2.length else 0) + cntS p b := by
  unfold cntS
  by_cases h : p e.1 = true
  · rw [if_pos h]; simp [h]
  · rw [if_neg h]; simp [h]
theorem cntC_app (p : Int → Bool) (a b : List Con) : cntC p (a ++ b) = cntC p a + cntC p b := by simp [cntC]
theorem cntC_cons (p : Int → Bool) (e : Con) (b : List Con) : cntC p (e :: b) = cntS p e.2.2 + cntC p b := by simp [cntC]
theorem cntS_put (p : Int → Bool) {ps : List (Int × List Nm)} (hs : Srt ltI ps) (k : Int) (x : Nm) : cntS p (putL ltI ps k ((getL ps k).getD [] ++ [x])) = cntS p ps + if p k then 1 else 0 := by
  unfold putL
  rw [cntS_app, cntS_cons]
  rcases cut_at14 stoI ps k hs with ⟨v, hg, hc⟩ | ⟨hg, hc⟩
  · rw [hg]
    have h1 : cntS p ps = cntS p (loL ltI ps k) + ((if p k then v.length else 0) + cntS p (hiL ltI ps k)) := by
      conv => lhs; rw [hc]
      rw [cntS_app, cntS_cons]
    rw [h1]
    simp only [Option.getD_some, List.length_append, List.length_cons, List.length_nil]
    split <;> omega
  · rw [hg]
    have h1 : cntS p ps = cntS p (loL ltI ps k) + cntS p (hiL ltI ps k) := by
      conv => lhs; rw [hc]
      rw [cntS_app]
    rw [h1]
    simp only [Option.getD_none, List.nil_append, List.length_cons, List.length_nil]
    split <;> omega
theorem cntC_put (p : Int → Bool) (g : Int) {C : List Con} (hs : Srt ltS C) (hi : ∀ c ∈ C, Srt ltI c.2.2) (zs : List SLab) (x : Nm) : cntC p (putC g C zs x) = cntC p C + if p (endR g x.t) then 1 else 0 := by
  unfold putC
  rcases cut_at14 stoS C (textL zs) hs with ⟨⟨ls, ps⟩, hg, hc⟩ | ⟨hg, hc⟩
  · rw [hg]
    dsimp only
    have h1 : cntC p C = cntC p (loL ltS C (textL zs)) + (cntS p ps + cntC p (hiL ltS C (textL zs))) := by
      conv => lhs; rw [hc]
      rw [cntC_app, cntC_cons]
    unfold putL at *
    rw [cntC_app, cntC_cons, h1]
    have h2 := cntS_put p (hi _ (get_mem hg)) (endR g x.t) x
    dsimp only at h2 ⊢
    unfold putL at h2
    rw [h2]
    omega
  · rw [hg]
    dsimp only
    have h1 : cntC p C = cntC p (loL ltS C (textL zs)) + cntC p (hiL ltS C (textL zs)) := by
      conv => lhs; rw [hc]
      rw [cntC_app]
    unfold putL
    rw [cntC_app, cntC_cons, h1]
    show _ + (cntS p [(endR g x.t, [x])] + _) = _
    rw [cntS_cons]
    show _ + ((if p (endR g x.t) then 1 else 0) + 0 + _) = _
    omega
theorem cntS_ev (p : Int → Bool) (T : Int) (ps : List (Int × List Nm)) : cntS p (evP T ps) = cntS (fun e => p e && decide (T < e)) ps := by
  unfold cntS evP
  rw [List.filter_filter]
theorem cntC_ev (p : Int → Bool) (T : Int) (C : List Con) : cntC p (C.filterMap (evC T)) = cntC (fun e => p e && decide (T < e)) C := by
  induction C with
  | nil => rfl
  | cons c t ih =>
    rw [cntC_cons]
    by_cases h : evP T c.2.2 = []
    · rw [List.filterMap_cons_none (by unfold evC; rw [if_pos h]), ih, ← cntS_ev, h]
      show _ = 0 + _
      omega
    · rw [List.filterMap_cons_some (b := (c.1, (c.2.1, evP T c.2.2))) (by unfold evC; rw [if_neg h]), cntC_cons, ih, ← cntS_ev]
theorem gone_cnt (T : Int) (C : List Con) : (C.map (goneC T)).sum = cntC (fun e => decide (e ≤ T)) C := rfl
/-- as many as the row has -/
def Cnt (g : Int) (C : List Con) (R : List RowE) : Prop := ∀ p : Int → Bool, cntC p C = (R.filter fun r => p (endR g r.2.t)).length
theorem cnt_put {g : Int} {C : List Con} {R : List RowE} (h : Cnt g C R) (hs : Srt ltS C) (hi : ∀ c ∈ C, Srt ltI c.2.2) (zs : List SLab) (x : Nm) : Cnt g (putC g C zs x) (R ++ [(zs, x)]) := fun p => by
  rw [cntC_put p g hs hi, h p, List.filter_append, List.length_append]
  congr 1
  by_cases q : p (endR g x.t) = true
  · rw [if_pos q]; simp [q]
  · rw [if_neg q]; simp [q]
theorem cnt_ev {g : Int} {C : List Con} {R : List RowE} (h : Cnt g C R) (T : Int) : Cnt g (C.filterMap (evC T)) (R.filter fun r => decide (T < endR g r.2.t)) := fun p => by
  rw [cntC_ev, h, List.filter_filter]
/-- what Evict tells -/
theorem gone_row {g : Int} {C : List Con} {R : List RowE} (h : Cnt g C R) (T : Int) : (C.map (goneC T)).sum + (R.filter fun r => decide (T < endR g r.2.t)).length = R.length := by
  rw [gone_cnt, h]
  have := List.length_eq_countP_add_countP (fun r : RowE => decide (T < endR g r.2.t)) (l := R)
  rw [this, List.countP_eq_length_filter, List.countP_eq_length_filter, Nat.add_comm]
  congr 2
  apply List.filter_congr
  intro r _
  simp
end Go.Proofs.YtedcdhngiofpjaaGreatDoor
/- A range parted at a place of the grid; how many series, panes and samples there are at most. -/
namespace Go.Proofs.YtedcdhngiofpjaaGreatDoor
open Go Go.Proofs Go.RowKit Go.Shelf
set_option maxRecDepth 100000
theorem btw_none {t : List (Int × Pa)} {x y : Int} (h : ∀ e ∈ t, y < e.1) : btw x y t = [] := by
  unfold btw
  rw [List.filter_eq_nil_iff]
  intro e he
  have := h e he
  simp only [Bool.and_eq_true, decide_eq_true_eq]
  omega
theorem btw_split {ps : List (Int × Pa)} (hs : Srt ltI ps) {x y z : Int} (h1 : x ≤ y) (h2 : y ≤ z) : btw x z ps = btw x y ps ++ btw y z ps := by
  induction ps with
  | nil => rfl
  | cons e t ih =>
    obtain ⟨hh, ht⟩ := List.pairwise_cons.1 hs
    have ih := ih ht
    have hlt : ∀ f ∈ t, e.1 < f.1 := fun f hf => by simpa [ltI] using hh f hf
    have hcons : ∀ a b : Int, btw a b (e :: t) = (if a < e.1 ∧ e.1 ≤ b then e :: btw a b t else btw a b t) := fun a b => by
      unfold btw
      rw [List.filter_cons]
      simp only [Bool.and_eq_true, decide_eq_true_eq]
    rw [hcons, hcons, hcons]
    by_cases c1 : x < e.1
    · by_cases c2 : e.1 ≤ y
      · rw [if_pos (by omega), if_pos (by omega), if_neg (by omega), ih, List.cons_append]
      · have hn : btw x y t = [] := btw_none (fun f hf => by have := hlt f hf; omega)
        rw [hn, List.nil_append] at ih
        by_cases c3 : e.1 ≤ z
        · rw [if_pos (by omega), if_neg (by omega), if_pos (by omega), hn, List.nil_append, ih]
        · rw [if_neg (by omega), if_neg (by omega), if_neg (by omega), hn, List.nil_append, ih]
    · rw [if_neg (by omega), if_neg (by omega), if_neg (by omega), ih]
theorem rng_split {S : Sto} {w : World} (h : StAt w S) (zs : List SLab) {x y z : Int} (h1 : x ≤ y) (h2 : y ≤ z) : rngP S zs x z = rngP S zs x y ++ rngP S zs y z := by
  unfold rngP
  cases hg : getL S.ss (textL zs) with
  | none => rfl
  | some s => exact btw_split (h.ser _ (get_mem14 h hg)).srt h1 h2
theorem fold_split {S : Sto} {w : World} (h : StAt w S) (zs : List SLab) {x y z : Int} (h1 : x ≤ y) (h2 : y ≤ z) : mergeR (foldP (rngP S zs x y)) (foldP (rngP S zs y z)) = foldP (rngP S zs x z) := by
  rw [foldP_of, foldP_of, foldP_of, rng_split h zs h1 h2, List.flatMap_append, ofR_app]
/-- the panes' bounds -/
theorem rng_bd {S : Sto} {w : World} (h : StAt w S) (zs : List SLab) (f t : Int) : Bd ((rngP S zs f t).flatMap fun e => e.2.L).length (foldP (rngP S zs f t)) ∧ ((rngP S zs f t).flatMap fun e => e.2.L).length ≤ 10000 := by
  have hl := rngP_len h zs f t
  have ho : ∀ e ∈ rngP S zs f t, OkP e := fun e he => (rngP_mem h he).2
  refine ⟨foldP_bd _ ho hl, ?_⟩
  have := flat_len (rngP S zs f t) (fun e he => (ho e he).len)
  omega
/-- how many there are in all -/
abbrev allN (C : List Con) : Nat := cntC (fun _ => true) C
theorem sum_ge {l : List Nat} {x : Nat} (h : x ∈ l) : x ≤ l.sum := by
  induction l with
  | nil => cases h
  | cons a t ih =>
    rw [List.sum_cons]
    rcases List.mem_cons.1 h with rfl | h
    · omega
    · have := ih h; omega
theorem len_sum {l : List Nat} (h : ∀ x ∈ l, 1 ≤ x) : l.length ≤ l.sum := by
  induction l with
  | nil => simp
  | cons a t ih =>
    rw [List.sum_cons, List.length_cons]
    have := h a (by simp)
    have := ih (fun x hx => h x (by simp [hx]))
    omega
theorem cntS_all (ps : List (Int × List Nm)) : cntS (fun _ => true) ps = (ps.map fun e => e.2.length).sum := by
  unfold cntS
  rw [List.filter_eq_self.2 (fun _ _ => rfl)]
theorem few_all {g : Int} {C : List Con} {R : List RowE} (h : Rel g C R) {N : Nat} (hn : allN C ≤ N) : C.length ≤ N ∧ ∀ c ∈ C, c.2.2.length ≤ N ∧ ∀ p ∈ c.2.2, p.2.length ≤ N := by
  have hs : ∀ c ∈ C, cntS (fun _ => true) c.2.2 ≤ N := fun c hc => by
    have := sum_ge (l := C.map fun c => cntS (fun _ => true) c.2.2) (List.mem_map.2 ⟨c, hc, rfl⟩)
    exact Nat.le_trans this hn
  have hp : ∀ c ∈ C, c.2.2.length ≤ cntS (fun _ => true) c.2.2 ∧ ∀ p ∈ c.2.2, p.2.length ≤ cntS (fun _ => true) c.2.2 := fun c hc => by
    rw [cntS_all]
    refine ⟨?_, fun p hp => sum_ge (List.mem_map.2 ⟨p, hp, rfl⟩)⟩
    have := len_sum (l := c.2.2.map fun e => e.2.length) (fun x hx => by
      obtain ⟨p, hp, rfl⟩ := List.mem_map.1 hx
      have := (h.full c hc).2 p hp
      cases hq : p.2 with
      | nil => exact absurd hq this
      | cons a b => simp)
    rwa [List.length_map] at this
  refine ⟨?_, fun c hc => ⟨Nat.le_trans (hp c hc).1 (hs c hc), fun p hq => Nat.le_trans ((hp c hc).2 p hq) (hs c hc)⟩⟩
  have := len_sum (l := C.map fun c => cntS (fun _ => true) c.2.2) (fun x hx => by
    obtain ⟨c, hc, rfl⟩ := List.mem_map.1 hx
    have h1 := (hp c hc).1
    have h2 := (h.full c hc).1
    cases hq : c.2.2 with
    | nil => exact absurd hq h2
    | cons a b => rw [hq] at h1; simp at h1; rw [hq] at *; omega)
  rw [List.length_map] at this
  exact Nat.le_trans this hn
end Go.Proofs.YtedcdhngiofpjaaGreatDoor
/- Put of any sample that may be; what a range holds by the store's content. -/
namespace Go.Proofs.YtedcdhngiofpjaaGreatDoor
open Go Go.Proofs Go.RowKit Go.Shelf
set_option maxRecDepth 100000
theorem put_any14 (S : Sto) (hg : 1 ≤ S.grid) (hg2 : S.grid ≤ 4398046511104) (a : Option Addr) (n cap : Nat) (zs : List SLab) (x : Nm) (hx : I64 x.v) (hz : zs.length ≤ 100) (hn0 : 0 ≤ S.n ∧ S.n ≤ 1000000) (hs : sampR zs x.t x.s x.q = 0) (hls : S.ss.length < 100) (hln : ∀ e ∈ S.ss, e.2.ps.length < 100 ∧ ∀ p ∈ e.2.ps, p.2.L.length < 100) (hla : ∀ ad, a = some ad → ad.block ∉ S.own) (w : World) (h : StAt w S) (hI : Labs w.heap.size w (.slice a n cap) zs) :
    Calls Tryz.prog 11 #[.pointer (some ⟨S.b, 0, none⟩), .agg #[.slice a n cap, .int .i64 x.v, .int .i64 x.t, .int .i64 x.s, .int .i64 x.q]] w (PutP S zs x w) := by
  cases hg' : getL S.ss (textL zs) with
  | none => exact put_new S hg hg2 a n cap zs x hx hz hn0 hs hg' hls hla w h hI
  | some s => exact put_old S hg hg2 a n cap zs x hx hz hn0 hs s hg' hln w h hI
theorem few_con {S : Sto} {R : List RowE} {N : Nat} (h : Rel S.grid (S.ss.map con) R) (hn : allN (S.ss.map con) ≤ N) : S.ss.length ≤ N ∧ ∀ e ∈ S.ss, e.2.ps.length ≤ N ∧ ∀ p ∈ e.2.ps, p.2.L.length ≤ N := by
  obtain ⟨h1, h2⟩ := few_all h hn
  rw [List.length_map] at h1
  refine ⟨h1, fun e he => ?_⟩
  obtain ⟨h3, h4⟩ := h2 (con e) (List.mem_map.2 ⟨e, he, rfl⟩)
  unfold con conP at h3 h4
  dsimp only at h3 h4
  rw [List.length_map] at h3
  exact ⟨h3, fun p hp => h4 _ (List.mem_map.2 ⟨p, hp, rfl⟩)⟩
/-- a range by the content -/
def rngC (C : List Con) (zs : List SLab) (f t : Int) : List Nm := match getL C (textL zs) with | some c => (c.2.filter fun e => decide (f < e.1) && decide (e.1 ≤ t)).flatMap (·.2) | none => []
theorem rng_con (S : Sto) (zs : List SLab) (f t : Int) : (rngP S zs f t).flatMap (fun e => e.2.L) = rngC (S.ss.map con) zs f t := by
  unfold rngP rngC
  rw [con_get]
  cases getL S.ss (textL zs) with
  | none => rfl
  | some s =>
    show (btw f t s.ps).flatMap (fun e => e.2.L) = ((conP s.ps).filter fun e => decide (f < e.1) && decide (e.1 ≤ t)).flatMap (·.2)
    unfold btw conP
    rw [List.filter_map, List.flatMap_map]
    rfl
theorem con_srt {w : World} {S : Sto} (h : StAt w S) : Srt ltS (S.ss.map con) ∧ ∀ c ∈ S.ss.map con, Srt ltI c.2.2 := by
  refine ⟨(srt_map (fun s : Sr => (s.ls, conP s.ps))).2 h.srt, fun c hc => ?_⟩
  obtain ⟨e, he, rfl⟩ := List.mem_map.1 hc
  exact (srt_map (fun p : Pa => p.L)).2 (h.ser e he).srt
theorem all_put {w : World} {S : Sto} (h : StAt w S) (zs : List SLab) (x : Nm) : allN (putC S.grid (S.ss.map con) zs x) = allN (S.ss.map con) + 1 := by
  obtain ⟨h1, h2⟩ := con_srt h
  have := cntC_put (fun _ => true) S.grid h1 h2 zs x
  simpa using this
theorem check_len {zs : List SLab} (h : checkR zs = 0) : zs.length ≤ 100 := by
  unfold checkR at h
  split at h
  · cases h
  · omega
end Go.Proofs.YtedcdhngiofpjaaGreatDoor
/- store: Hist: where the ends are good. -/
namespace Go.Proofs.YtedcdhngiofpjaaGreatDoor
open Go Go.Proofs Go.RowKit Go.Shelf
set_option maxRecDepth 100000
attribute [local go_sem] cell_set Oper.semAt_some
/-- ahead of a round -/
structure HgI (S : Sto) (zs : List SLab) (sv : Value) (f t : Int) (w : World) (r : List (Int × Pa)) (V : World) (pre : List (Int × Pa)) : Prop where
  parts : rngP S zs f t = pre ++ r
  l : Boxed V (w.heap.size + 3) 24 sv
  s : Boxed V (w.heap.size + 2) 27 (.pointer (some ⟨S.b, 0, none⟩))
  f : Boxed V (w.heap.size + 4) 2 (.int .i64 f)
  t : Boxed V (w.heap.size + 5) 2 (.int .i64 t)
  p : HAt 59 V (w.heap.size + 1) (hisP pre)
  z : HAt 59 V w.heap.size zs65
  B : Below w.heap.size w V
theorem HgI.ce {S : Sto} {zs : List SLab} {sv : Value} {f t : Int} {w V : World} {r pre : List (Int × Pa)} (h : HgI S zs sv f t w r V pre) (hS : StAt w S) (hL : Labs w.heap.size w sv zs) : CeP S zs sv f t (w.heap.size + 3) (w.heap.size + 2) (w.heap.size + 4) (w.heap.size + 5) V :=
  ⟨h.l, h.s, h.f, h.t, labs_on hL h.B, hS.below h.B⟩
theorem HgI.same {S : Sto} {zs : List SLab} {sv : Value} {f t : Int} {w A A' : World} {B : Nat} {M : List Nat} {r pre : List (Int × Pa)} (h : HgI S zs sv f t w r A pre) (q : Same B M A A') (hB : w.heap.size + 6 ≤ B) : HgI S zs sv f t w r A' pre :=
  ⟨h.parts, boxed_same h.l q (by omega), boxed_same h.s q (by omega), boxed_same h.f q (by omega), boxed_same h.t q (by omega),
   h.p.keep (q.block _ (.inl (by omega)) h.p.lt), h.z.keep (q.block _ (.inl (by omega)) h.z.lt),
   h.B.trans ⟨q.os, q.tape, q.output, q.size, fun k hk => q.block k (.inl (by omega)) (Nat.lt_of_lt_of_le hk h.B.size)⟩⟩
/-- in a round: both rows -/
structure HgS (pb cb : Nat) (p q : List Int) (u : World) : Prop where
  P : HAt 59 u pb p
  C : u.rangeAt cb 9 (q.map (Value.int .i64))
  lt : cb < u.heap.size
theorem HgS.below {pb cb : Nat} {p q : List Int} {u v : World} (h : HgS pb cb p q u) (hb : Below u.heap.size u v) : HgS pb cb p q v := ⟨h.P.below hb, fun j x hx => (hb.cell (p := ⟨cb, 9 + j, none⟩) h.lt).trans (h.C j x hx), Nat.lt_of_lt_of_le h.lt hb.size⟩
/-- the slots in a round -/
abbrev HgT (S : Sto) (a : Option Addr) (n c : Nat) (f t : Int) (N blk : Nat) : Array Value :=
  #[.pointer (some ⟨S.b, 0, none⟩), .slice a n c, .int .i64 f, .int .i64 t, undef, undef, undef, undef, .pointer (some ⟨N, 0, none⟩), .int .i64 0, .int .i64 0, .pointer (some ⟨N + 1, 0, none⟩), .pointer (some ⟨blk, 0, none⟩), .pointer (some ⟨S.b, 0, none⟩), .int .i64 f, .int .i64 t, .int .i64 0, .int .i64 0, .bool false, undef, undef,
    .pointer (some ⟨S.b, 0, none⟩), .slice a n c, .int .i64 f, .int .i64 t, .func (.func 86) #[] #[.pointer (some ⟨N + 3, 0, none⟩), .pointer (some ⟨N + 2, 0, none⟩), .pointer (some ⟨N + 4, 0, none⟩), .pointer (some ⟨N + 5, 0, none⟩)], .pointer (some ⟨blk, 0, none⟩), undef, undef, undef, undef, undef, undef, undef]
set_option maxHeartbeats 8000000 in
theorem hist_good14 (S : Sto) (hg : 1 ≤ S.grid) (a : Option Addr) (n c : Nat) (zs : List SLab) (hz : zs.length ≤ 100) (hck : checkR zs = 0) (f t : Int) (hb : endsR S.grid f t = 0) (w : World) (h : StAt w S) (hI : Labs w.heap.size w (.slice a n c) zs) :
    CallsIn Fence.wide 9 Tryz.prog 20 #[.pointer (some ⟨S.b, 0, none⟩), .slice a n c, .int .i64 f, .int .i64 t] w fun e w' => e = .returned (.tuple #[.agg (hc (hisP (rngP S zs f t))), .int .i64 0]) ∧ Below w.heap.size w w' := by
  obtain ⟨W1, hW1⟩ : ∃ W1, W1 = w.alloc (.cells (hc zs65) 59) := ⟨_, rfl⟩
  have hb1 : Below w.heap.size w W1 := by rw [hW1]; exact below_cells _
  have hs1 : W1.heap.size = w.heap.size + 1 := by rw [hW1]; simp
  have HC := Lib.hid (check_any14 S hg f t W1 (h.below hb1))
  rw [hb] at HC
  have HZ1 := Lib.hid (show HAt 59 W1 w.heap.size zs65 by rw [hW1]; exact hat_new w _ zs65_len)
  have hz := zeroH
  have hzs := hc_size zs65
  have hzn := hc_ne zs65_len
  have HS1 := Lib.hid hs1
  have HB1 := Lib.hid hb1
  have HH := Lib.hid h
  have HI := Lib.hid hI
  have HCl := Lib.hid (fun W => cells_any14 S.b a n c f t W)
  clear h hb hb1 hI hs1
  refine callsIn_of_wp_marks Tryz.func20 rfl trivial ?_ rfl
  simp only [Tryz.ntmps20, List.size_toArray, List.length_cons, List.length_nil, Nat.reduceAdd, Nat.reduceSub, Array.replicate_succ, Array.replicate_zero, List.push_toArray, List.append_toArray, List.nil_append, List.cons_append]
  gi_wp2_with fail
  rw [← hW1]
  refine ⟨trivial, (callsIn_wide.2 HC.out).mono ?_⟩
  rintro e w2 ⟨rfl, rfl⟩
  clear hW1
  obtain ⟨W2, hW2⟩ : ∃ W2, W2 = W1.alloc (.cells (hc zs65) 59) := ⟨_, rfl⟩
  gi_wp2_with fail
  rw [← hW2]
  have hs2 : W2.heap.size = w.heap.size + 2 := by rw [hW2, World.size_alloc, HS1.out]
  have hCl := HCl.out W2
  rw [hs2] at hCl
  refine ⟨trivial, (callsIn_wide.2 hCl).mono ?_⟩
  clear hCl HCl
  rintro e w3 ⟨rfl, hw3⟩
  have hb2 : Below W1.heap.size W1 W2 := by rw [hW2]; exact below_cells _
  have hb3 : Below W2.heap.size W2 w3 := by rw [hw3]; go_grown
  have hB3 : Below w.heap.size w w3 := (HB1.out.trans (hb2.mono HB1.out.size)).trans (hb3.mono (by omega))
  have z3 : HAt 59 w3 w.heap.size zs65 := ((HZ1.out.below hb2).below hb3)
  have p3 : HAt 59 w3 (w.heap.size + 1) (hisP []) := by
    have := hat_new W1 59 zs65_len
    rw [HS1.out] at this
    rw [← hW2] at this
    exact this.below hb3
  clear hz hzs hzn
  have hce : CeP S zs (.slice a n c) f t (w.heap.size + 3) (w.heap.size + 2) (w.heap.size + 4) (w.heap.size + 5) w3 := by
    refine ⟨?_, ?_, ?_, ?_, labs_on HI.out hB3, HH.out.below hB3⟩
    · rw [hw3]
      have q := Boxed.new (W2.alloc (.cells #[.pointer (some ⟨S.b, 0, none⟩)] 27)) 24 (.slice a n c)
      rw [World.size_alloc, hs2] at q
      exact (q.alloc _).alloc _
    · rw [hw3]
      have q := Boxed.new W2 27 (.pointer (some ⟨S.b, 0, none⟩))
      rw [hs2] at q
      exact ((q.alloc _).alloc _).alloc _
    · rw [hw3]
      have q := Boxed.new ((W2.alloc (.cells #[.pointer (some ⟨S.b, 0, none⟩)] 27)).alloc (.cells #[.slice a n c] 24)) 2 (.int .i64 f)
      rw [World.size_alloc, World.size_alloc, hs2] at q
      exact q.alloc _
    · rw [hw3]
      have q := Boxed.new (((W2.alloc (.cells #[.pointer (some ⟨S.b, 0, none⟩)] 27)).alloc (.cells #[.slice a n c] 24)).alloc (.cells #[.int .i64 f] 2)) 2 (.int .i64 t)
      rw [World.size_alloc, World.size_alloc, World.size_alloc, hs2] at q
      exact q
  have hs3 : w3.heap.size = w.heap.size + 6 := by rw [hw3, World.size_alloc, World.size_alloc, World.size_alloc, World.size_alloc, hs2]
  clear hw3 hW2 hb2 hb3 hs2 HB1 HZ1 HC
  have h0 : HgI S zs (.slice a n c) f t w (rngP S zs f t) w3 [] := ⟨rfl, hce.l, hce.s, hce.f, hce.t, p3, z3, hB3⟩
  have H0 := Lib.hid h0
  have HN := Lib.hid hs3
  clear hce p3 z3 hB3 h0 hs3
  gi_wp2
  rw [HS1.out]
  clear HS1
  refine rangeG (F := Fence.wide) (n := 9) (γ := Unit) rfl (by omega) (gf := 86) (lb := #[.pointer (some ⟨w.heap.size + 3, 0, none⟩), .pointer (some ⟨w.heap.size + 2, 0, none⟩), .pointer (some ⟨w.heap.size + 4, 0, none⟩), .pointer (some ⟨w.heap.size + 5, 0, none⟩)]) rfl trivial (enters_of Tryz.func86 (by kernel_rfl) rfl)
    (seqG_depth (cells_stops (fun _ : Unit => []) S zs a n c f t (w.heap.size + 3) (w.heap.size + 2) (w.heap.size + 4) (w.heap.size + 5) hz hck w3)) (Below.refl _ _) (fun _ => rfl)
    (fun r _ V => ∃ pre, HgI S zs (.slice a n c) f t w r V pre)
    (fun _ _ _ => False)
    () (fun r c A A' hi q => by obtain ⟨pre, hi⟩ := hi; exact ⟨pre, hi.same q (by rw [HN.out]; exact Nat.le_refl _)⟩)
    (fun _ _ _ _ hi _ => hi)
    (fun _ hk => nomatch hk) ⟨[], H0.out⟩
    (fun r _ V hi => by obtain ⟨pre, hi⟩ := hi; exact hi.ce HH.out HI.out)
    (fun x a' _ => a' = { tmps := HgT S a n c f t w.heap.size x.2.blk, defers := [] })
    (fun x a' A A' hx _ => hx) ?assign ?body ?done (fun _ _ _ _ _ hf => hf.elim)
  case assign =>
    rintro l' st x st' _ V K hI hnx _ hK
    have HI := Lib.hid hI
    clear hI
    gi_wp2
    exact hK _ _ (Step.refl (fun _ q => nomatch q)) HI.out rfl
  case body =>
    rintro l' r x r' _ a' V hl _ _ ⟨pre, q⟩ hnx rfl
    obtain ⟨e0, rfl⟩ : ∃ e0 : Int × Pa, r = x :: r' := by
      cases r with
      | nil => cases hnx
      | cons e0 r0 => obtain ⟨rfl, rfl⟩ : e0 = x ∧ r0 = r' := by simpa [nxP] using hnx
                      exact ⟨e0, rfl⟩
    clear hnx
    have hst := (q.ce HH.out HI.out).st
    have hxm : x ∈ rngP S zs f t := by rw [q.parts]; simp
    obtain ⟨hcx, hok⟩ := rngP_mem hst hxm
    have hpo : ∀ e ∈ pre, OkP e := fun e he => (rngP_mem hst (by rw [q.parts]; simp [he])).2
    have hlen := rngP_len hst zs f t
    rw [q.parts, List.length_append, List.length_cons] at hlen
    have hgl : (histR (vals x.2.L)).length = 65 := histR_len _
    have hpl : (mergeH (hisP pre) (histR (vals x.2.L))).length = 65 := by unfold mergeH; rw [mergeL_len]; exact q.p.len
    have hM := Lib.hid (fun W => hmerge_any (hisP pre) (histR (vals x.2.L)) (hisP_small hpo (by omega)) (histR_small (all64_vals hok.i64) (by rw [vals_len]; have := hok.len; omega)) W)
    have hpr := Lib.hid (hisP_snoc hpo hok)
    have hS0 : HgS (w.heap.size + 1) x.2.blk (hisP pre) (histR (vals x.2.L)) V := ⟨q.p, clC_hist hcx, (Array.getElem?_eq_some_iff.1 hcx).1⟩
    have HQ := Lib.hid q
    clear q hst hxm hcx hok hpo hlen
    generalize hisP pre = pa at *
    generalize histR (vals x.2.L) = pb at *
    generalize mergeH pa pb = pr at *
    generalize x.2.blk = cb at *
    unfold HgT
    dsimp only
    gi_wp2_with fail
    refine wpIn_mono ?_ NoPanic.imp
    refine region_anyM (S := HgS (w.heap.size + 1) cb pa pb) 6 (by kernel_rfl) (fun hS => ?_) (show HgS _ _ _ _ V.drew from ⟨hS0.P.drew, hS0.C, hS0.lt⟩)
    clear hS0
    refine anyM_c 0 [0, 5, 6] hS (fun u h => h) ?_ (hy := ldY_row (fun u h => h.P) rowH rfl rfl rfl)
    refine anyM_d 1 [1, 2, 3, 4, 5, 6] hS ?_
    refine anyM_d 2 [2, 3, 4, 5, 6] hS ?_
    refine anyM_d 3 [3, 4, 5, 6] hS ?_
    refine anyM_c 4 [4, 5, 6] hS (fun u h => h) ?_ (hy := yieldsIf_load_mid rfl 59 _ rfl cb 9 rfl _ _ (fun u h => h.C) rowH.und rfl (by rw [List.length_map, hgl]; exact rowH.info))
    refine anyM_o 5 (fun K hK => ?_)
    go_simp
    refine ⟨trivial, ?_⟩
    refine (callsIn_wide.2 (hM.out _)).mono ?_
    rintro e w1 ⟨rfl, hb1⟩
    have hM1 := hS.below hb1
    have HB1 := Lib.hid (show Below V.heap.size V w1 from ((Below.refl _ V).drew).trans hb1)
    dsimp only
    refine hK _ _ hM1 ?_
    clear hS
    have hS := hM1
    clear hM1 hK K hM hb1
    refine anyM_l (fun K hK => ?_)
    refine stO_row rowH hS.P rfl rfl rfl hpl ?_
    refine hK _ _ ?_
    clear hK K
    refine anyIn_done (by kernel_rfl) ?_ _
    refine NoPanic.normal ?_
    have hsp2 := Lib.hid (hS.P.row hpl)
    have htn := Lib.hid (Turn.row w1 (w.heap.size + 1) (hc pr))
    clear hS
    generalize w1.setRow (w.heap.size + 1) (hc pr) = w2 at *
    gi_wp2
    have hq := HQ.out
    have hb2 : Turn [w.heap.size + 1] V w2 := (Turn.of_below HB1.out [w.heap.size + 1]).trans htn.out (fun _ q => .inl q)
    have n1 : ∀ k, k ≠ w.heap.size + 1 → k ∉ [w.heap.size + 1] := fun k h q => h (List.mem_singleton.1 q)
    refine ⟨(), ⟨pre ++ [x], ⟨by rw [hq.parts]; simp, hb2.at (n1 _ (by omega)) hq.l, hb2.at (n1 _ (by omega)) hq.s, hb2.at (n1 _ (by omega)) hq.f, hb2.at (n1 _ (by omega)) hq.t, ?_, hq.z.keep (hb2.block _ hq.z.lt (n1 _ (by omega))), hq.B.trans (hb2.below (fun b hb => by rw [List.mem_singleton.1 hb]; omega) hq.B.size)⟩⟩, ⟨hb2.size, fun k o hk _ ho => hb2.at (n1 _ (by have := HN.out; omega)) ho, fun _ q => .inl q, fun _ q => nomatch q⟩⟩
    rw [hpr.out]; exact hsp2.out
  case done =>
    rintro D r _ V hD hnx ⟨pre, q⟩ _ hDl
    obtain rfl : r = [] := by
      cases r with
      | nil => rfl
      | cons _ _ => cases hnx
    have hf : hisP pre = hisP (rngP S zs f t) := by rw [q.parts, List.append_nil]
    have qp := q.p
    rw [hf] at qp
    have hne0 : w.heap.size ≠ D := by have := HN.out; omega
    have HB := Lib.hid q.B
    have qz := q.z
    clear q hf H0 HH HI
    have Hpr := Lib.hid (Eq.refl (hisP (rngP S zs f t)))
    have hml := qp.len
    have HDl := Lib.hid hDl
    clear hnx hDl
    gi_wp2_with (first | (refine ldI_row rowH qp rfl rfl rfl ?_) | (refine stI_row rowH qz rfl rfl rfl rfl hml ?_) | fail)
    have hT2 : Turn [w.heap.size] V (V.setRow w.heap.size (hc (hisP (rngP S zs f t)))) := Turn.row _ _ _
    have hD2 := hT2.at (fun q => hne0 (List.mem_singleton.1 q).symm) HDl.out
    have hB2 := HB.out.trans (hT2.below (fun b hb => by rw [List.mem_singleton.1 hb]; exact Nat.le_refl _) HB.out.size)
    have hz2 := (qz.row hml).mark hne0 (.deferred none)
    have hlast : Below w.heap.size w ((V.setRow w.heap.size (hc (hisP (rngP S zs f t)))).putObj D (.deferred none)) := hB2.trans ⟨rfl, rfl, rfl, by simp, fun k hk => World.putObj_heap_other (by have := HN.out; omega)⟩
    refine ⟨by simp [Act.put], .inl ⟨_, _, by simp [Act.put], run_takeDeferred hD2, ?_⟩⟩
    refine ⟨_, results_cell_tmp (p := 8) (q := 9) (ty := 59) rfl _ _ w.heap.size 59 _ (0, 0) _ _ rfl hz2.blk rowH.und rfl (rowH.size hml) rfl, rfl, hlast⟩
end Go.Proofs.YtedcdhngiofpjaaGreatDoor
/- A store under way: what it leaves alone, what it holds. -/
namespace Go.Proofs.YtedcdhngiofpjaaGreatDoor
open Go Go.Proofs Go.RowKit Go.Shelf
set_option maxRecDepth 100000
/-- a store, all its blocks from n0 on, none of them among F -/
structure StoW (g : Int) (n0 : Nat) (F : Nat → Prop) (u : World) (S : Sto) (R : List RowE) : Prop where
  st : StAt u S
  grid : S.grid = g
  own : ∀ b ∈ S.own, n0 ≤ b ∧ ¬ F b
  lt : ∀ b, F b → b < u.heap.size
  n0 : n0 ≤ u.heap.size
  rel : Rel g (S.ss.map con) R
  n : S.n = (allN (S.ss.map con) : Nat)
section
variable {g : Int} {n0 : Nat} {F : Nat → Prop} {u u' : World} {S : Sto} {R : List RowE}
theorem StoW.below (h : StoW g n0 F u S R) (hb : Below u.heap.size u u') : StoW g n0 F u' S R := ⟨h.st.below hb, h.grid, h.own, fun b hb' => Nat.lt_of_lt_of_le (h.lt b hb') hb.size, Nat.le_trans h.n0 hb.size, h.rel, h.n⟩
theorem Turn.to_below {O : List Nat} (t : Turn O u u') (hO : ∀ b ∈ O, n0 ≤ b) (hn : n0 ≤ u.heap.size) : Below n0 u u' := ⟨t.os, t.tape, t.output, t.size, fun k hk => t.block k (by omega) (fun q => by have := hO k q; omega)⟩
def PutW (g : Int) (n0 : Nat) (F : Nat → Prop) (S : Sto) (R : List RowE) (zs : List SLab) (x : Nm) (u : World) (e : Ending) (u' : World) : Prop :=
  e = .returned (.int .i64 0) ∧ ∃ S', StoW g n0 F u' S' (R ++ [(zs, x)]) ∧ S'.b = S.b ∧ S'.ss.map con = putC g (S.ss.map con) zs x ∧ S'.n = S.n + 1 ∧ Below n0 u u' ∧ Turn S.own u u'
theorem StoW.put (h : StoW g n0 F u S R) (hg : 1 ≤ g) (hg2 : g ≤ 4398046511104) (a : Option Addr) (n cap : Nat) (zs : List SLab) (x : Nm) (hx : I64 x.v) (hs : sampR zs x.t x.s x.q = 0) (hN : allN (S.ss.map con) < 100) (hla : ∀ ad, a = some ad → F ad.block) (hI : Labs u.heap.size u (.slice a n cap) zs) :
    Calls Tryz.prog 11 #[.pointer (some ⟨S.b, 0, none⟩), .agg #[.slice a n cap, .int .i64 x.v, .int .i64 x.t, .int .i64 x.s, .int .i64 x.q]] u (PutW g n0 F S R zs x u) := by
  have hf := few_con (S := S) (R := R) (N := 99) (by rw [h.grid]; exact h.rel) (by omega)
  have hap := all_put h.st zs x
  rw [h.grid] at hap
  refine (put_any14 S (by rw [h.grid]; exact hg) (by rw [h.grid]; exact hg2) a n cap zs x hx (check_len (samp_bounds hs).1) (by rw [h.n]; omega) hs (by omega) (fun e he => ⟨by have := (hf.2 e he).1; omega, fun p hp => by have := (hf.2 e he).2 p hp; omega⟩) (fun ad e q => (h.own _ q).2 (hla ad e)) u h.st hI).mono ?_
  rintro e u2 ⟨rfl, S', h1, h2, h3, h4, h5, h6, h7, _⟩
  rw [h.grid] at h5
  refine ⟨rfl, S', ⟨h1, h3.trans h.grid, fun b hb => ?_, fun b hb => Nat.lt_of_lt_of_le (h.lt b hb) h6.size, Nat.le_trans h.n0 h6.size, by rw [h5]; exact rel_put h.rel zs x, by rw [h4, h5, hap, h.n]; push_cast; rfl⟩, h2, h5, h4, h6.to_below (fun b hb => (h.own b hb).1) h.n0, h6⟩
  rcases h7 b hb with q | q
  · exact h.own b q
  · exact ⟨Nat.le_trans h.n0 q, fun hF => by have := h.lt b hF; omega⟩
theorem new_stoW (F : Nat → Prop) (hF : ∀ b, F b → b < u.heap.size) (h1 : 1 ≤ g) (h2 : g ≤ 4398046511104) : Calls Tryz.prog 7 #[.int .i64 g] u fun e u' => e = .returned (.tuple #[.pointer (some ⟨u.heap.size, 0, none⟩), .int .i64 0]) ∧ Below u.heap.size u u' ∧ ∃ S, S.b = u.heap.size ∧ StoW g u.heap.size F u' S [] ∧ S.ss = [] :=
  (new_good14 g h1 h2 u).mono (by
    rintro e u2 ⟨rfl, hb, hst⟩
    refine ⟨rfl, hb, _, rfl, ⟨hst, rfl, fun b hb' => ?_, fun b hb' => Nat.lt_of_lt_of_le (hF b hb') hb.size, hb.size, rel_nil g, rfl⟩, rfl⟩
    have e : b = u.heap.size := by simpa [Sto.own] using hb'
    subst e
    exact ⟨Nat.le_refl _, fun q => by have := hF _ q; omega⟩)
end
theorem range_con (S : Sto) (hg : 1 ≤ S.grid) (a : Option Addr) (n c : Nat) (zs : List SLab) (hck : checkR zs = 0) (f t : Int) (hb : endsR S.grid f t = 0) (w : World) (h : StAt w S) (hI : Labs w.heap.size w (.slice a n c) zs) :
    Calls Tryz.prog 19 #[.pointer (some ⟨S.b, 0, none⟩), .slice a n c, .int .i64 f, .int .i64 t] w fun e w' => e = .returned (.tuple #[(ofR (rngC (S.ss.map con) zs f t)).V, .int .i64 0]) ∧ Below w.heap.size w w' := by
  rw [← rng_con, ← foldP_of]
  exact (callsIn_wide (n := 9)).1 (range_good14 S hg a n c zs (check_len hck) hck f t hb w h hI)
theorem hist_con (S : Sto) (hg : 1 ≤ S.grid) (a : Option Addr) (n c : Nat) (zs : List SLab) (hck : checkR zs = 0) (f t : Int) (hb : endsR S.grid f t = 0) (w : World) (h : StAt w S) (hI : Labs w.heap.size w (.slice a n c) zs) :
    Calls Tryz.prog 20 #[.pointer (some ⟨S.b, 0, none⟩), .slice a n c, .int .i64 f, .int .i64 t] w fun e w' => e = .returned (.tuple #[.agg (hc (histR (vals (rngC (S.ss.map con) zs f t)))), .int .i64 0]) ∧ Below w.heap.size w w' := by
  rw [← rng_con]
  exact (callsIn_wide (n := 9)).1 (hist_good14 S hg a n c zs (check_len hck) hck f t hb w h hI)
end Go.Proofs.YtedcdhngiofpjaaGreatDoor
