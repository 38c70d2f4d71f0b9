/- store: series in memory. -/
import Derived.Test.YtedcdhngiofpjaaGreatDoorSxI
import Derived.Test.YtedcdhngiofpjaaGreatDoorSxS
import Derived.Test.YtedcdhngiofpjaaGreatDoorTa
import Derived.Test.YtedcdhngiofpjaaGreatDoorHs
namespace Go.Proofs.YtedcdhngiofpjaaGreatDoor
open Go Go.Proofs Go.RowKit Go.Shelf
set_option maxRecDepth 100000
def pnC (p : Pn) : List Value := [.int .i64 p.c, .int .i64 p.h, .int .u64 p.l, .int .i64 p.mn, .int .i64 p.mx, .int .i64 p.t, .int .i64 p.s, .int .i64 p.q, .int .i64 p.v]
/-- the values of some samples -/
def vals (L : List Nm) : List Int := L.map (·.v)
/-- what a pane's block holds of the samples that were put there -/
def clC (L : List Nm) : Array Value := (pnC (ofR L) ++ (histR (vals L)).map (Value.int .i64)).toArray
theorem clC_size (L : List Nm) : (clC L).size = 74 := by
  unfold clC pnC
  simp [histR_len]
theorem clC_nil : clC [] = zvI := by kernel_rfl
abbrev TC : TypeId := 98
abbrev TSer : TypeId := 92
abbrev TLab : TypeId := 78
abbrev TSto : TypeId := 85
/-- a pane: where it lies, its samples -/
structure Pa where
  blk : Nat
  L : List Nm
structure Sr where
  sb : Nat
  lv : Value
  ls : List SLab
  pv : Value
  O : List Nat
  ps : List (Int × Pa)
def entsI (ps : List (Int × Pa)) : List EnI := ps.map fun e => (e.1, e.2.blk)
def Sr.own (s : Sr) : List Nat := s.sb :: (s.O ++ s.ps.map (·.2.blk))
/-- numbers that no sum of a few passes -/
structure OkP (e : Int × Pa) : Prop where
  i64 : ∀ x ∈ e.2.L, I64 x.v
  len : e.2.L.length ≤ 100
  k0 : 0 ≤ e.1
  k1 : e.1 ≤ 9007199254740992
structure SerAt (w : World) (s : Sr) : Prop where
  blk : w.heap[s.sb]? = some (.cells #[s.lv, s.pv] TSer (0, 0))
  lab : w.ownsRow 0 TLab 2 s.lv s.ls.length (labC s.ls)
  map : MapI w s.pv (entsI s.ps) s.O
  cells : ∀ e ∈ s.ps, w.heap[e.2.blk]? = some (.cells (clC e.2.L) TC (0, 0))
  srt : Srt ltI s.ps
  len : s.ps.length ≤ 100
  ok : ∀ e ∈ s.ps, OkP e
  dis : (s.ps.map (·.2.blk)).Nodup
theorem row_lt14 {w : World} {base e size n : Nat} {v : Value} {xs : List Value} (h : w.ownsRow base e size v n xs) : ∀ b, v.ownBlock = some b → ∃ cs, w.heap[b]? = some (.cells cs e (0, 0)) := by
  intro b hb
  rcases h.2 with ⟨rfl, _⟩ | ⟨g, cap, cur, rfl, _, hg, _⟩
  · simp [Value.ownBlock] at hb
  · obtain rfl : g = b := by simpa [Value.ownBlock] using hb
    exact ⟨cur, hg⟩
theorem row_keep14 {w w' : World} {base e size n : Nat} {v : Value} {xs : List Value} (h : w.ownsRow base e size v n xs) (k : ∀ b, v.ownBlock = some b → w'.heap[b]? = w.heap[b]?) : w'.ownsRow base e size v n xs := by
  refine ⟨h.1, h.2.imp id ?_⟩
  rintro ⟨g, cap, cur, rfl, h1, h2, h3⟩
  exact ⟨g, cap, cur, rfl, h1, (k g rfl).trans h2, h3⟩
section
variable {w w' : World} {s : Sr}
theorem SerAt.keep (h : SerAt w s) (k : ∀ b, (b ∈ s.own ∨ s.lv.ownBlock = some b) → w'.heap[b]? = w.heap[b]?) : SerAt w' s :=
  ⟨(k _ (.inl (by simp [Sr.own]))).trans h.blk, row_keep14 h.lab (fun b hb => k b (.inr hb)), h.map.keep (fun b hb => k b (.inl (by simp [Sr.own, hb]))),
    fun e he => (k _ (.inl (by simp only [Sr.own, List.mem_cons, List.mem_append, List.mem_map]; exact .inr (.inr ⟨e, he, rfl⟩)))).trans (h.cells e he), h.srt, h.len, h.ok, h.dis⟩
/-- the types of its own blocks -/
theorem SerAt.ty (h : SerAt w s) : ∀ b ∈ s.own, ∃ cs T, w.heap[b]? = some (.cells cs T (0, 0)) ∧ (T = TSer ∨ T = TLI ∨ T = TEI ∨ T = TC) := by
  intro b hb
  simp only [Sr.own, List.mem_cons, List.mem_append, List.mem_map] at hb
  rcases hb with rfl | hb | ⟨e, he, rfl⟩
  · exact ⟨_, _, h.blk, .inl rfl⟩
  · rcases h.map with ⟨_, ho, _⟩ | ⟨_, R, E, cap, ho, _, h3, h4⟩
    · rw [ho] at hb; cases hb
    · rw [ho] at hb
      simp only [List.mem_cons, List.not_mem_nil, or_false] at hb
      rcases hb with rfl | rfl
      · exact ⟨_, _, h3, .inr (.inl rfl)⟩
      · obtain ⟨cur, q, _⟩ := h4
        exact ⟨_, _, q, .inr (.inr (.inl rfl))⟩
  · exact ⟨_, _, h.cells e he, .inr (.inr (.inr rfl))⟩
theorem SerAt.lt (h : SerAt w s) : ∀ b ∈ s.own, b < w.heap.size := fun b hb => by
  obtain ⟨cs, T, q, _⟩ := h.ty b hb
  exact (Array.getElem?_eq_some_iff.1 q).1
theorem SerAt.lab_lt (h : SerAt w s) : ∀ b, s.lv.ownBlock = some b → b < w.heap.size := fun b hb => by
  obtain ⟨cs, q⟩ := row_lt14 h.lab b hb
  exact (Array.getElem?_eq_some_iff.1 q).1
theorem SerAt.lab_not (h : SerAt w s) {s' : Sr} (h' : SerAt w s') : ∀ b, s.lv.ownBlock = some b → b ∉ s'.own := fun b hb hm => by
  obtain ⟨cs, q⟩ := row_lt14 h.lab b hb
  obtain ⟨cs', T, q', hT⟩ := h'.ty b hm
  rw [q] at q'
  simp only [Option.some.injEq, Obj.cells.injEq] at q'
  rcases hT with rfl | rfl | rfl | rfl <;> exact absurd q'.2.1 (by decide)
theorem SerAt.below (h : SerAt w s) (hb : Below w.heap.size w w') : SerAt w' s := h.keep (fun b hm => hb.block b (hm.elim (h.lt b) (h.lab_lt b)))
theorem SerAt.turn {O : List Nat} (h : SerAt w s) (t : Turn O w w') (hd : ∀ b ∈ s.own, b ∉ O) (hl : ∀ b, s.lv.ownBlock = some b → b ∉ O) : SerAt w' s :=
  h.keep (fun b hm => hm.elim (fun q => t.block b (h.lt b q) (hd b q)) (fun q => t.block b (h.lab_lt b q) (hl b q)))
theorem SerAt.same {B : Nat} {M : List Nat} (h : SerAt w s) (t : Same B M w w') (hd : ∀ b ∈ s.own, b < B ∨ b ∈ M) (hl : ∀ b, s.lv.ownBlock = some b → b < B) : SerAt w' s :=
  h.keep (fun b hm => hm.elim (fun q => t.block b (hd b q) (h.lt b q)) (fun q => t.block b (.inl (hl b q)) (h.lab_lt b q)))
theorem SerAt.sb_not (h : SerAt w s) : s.sb ∉ s.O := fun hm => by
  rcases h.map with ⟨_, ho, _⟩ | ⟨_, R, E, cap, ho, _, h3, h4⟩
  · rw [ho] at hm; cases hm
  · rw [ho] at hm
    simp only [List.mem_cons, List.not_mem_nil, or_false] at hm
    rcases hm with hm | hm
    · have := h.blk.symm.trans (hm ▸ h3)
      simp [TSer, TLI] at this
    · obtain ⟨cur, q, _⟩ := h4
      have := h.blk.symm.trans (hm ▸ q)
      simp [TSer, TEI] at this
theorem SerAt.cell_not (h : SerAt w s) : ∀ e ∈ s.ps, e.2.blk ≠ s.sb ∧ e.2.blk ∉ s.O := fun e he => by
  have q0 := h.cells e he
  refine ⟨fun q => ?_, fun hm => ?_⟩
  · have := h.blk.symm.trans (q ▸ q0)
    simp [TSer, TC] at this
  · rcases h.map with ⟨_, ho, _⟩ | ⟨_, R, E, cap, ho, _, h3, h4⟩
    · rw [ho] at hm; cases hm
    · rw [ho] at hm
      simp only [List.mem_cons, List.not_mem_nil, or_false] at hm
      rcases hm with hm | hm
      · have := h3.symm.trans (hm ▸ q0)
        simp [TLI, TC] at this
      · obtain ⟨cur, q, _⟩ := h4
        have := q.symm.trans (hm ▸ q0)
        simp [TEI, TC] at this
end
theorem ents_srt {ps : List (Int × Pa)} (h : Srt ltI ps) : Srt ltI (entsI ps) := (srt_map (fun p : Pa => p.blk)).2 h
end Go.Proofs.YtedcdhngiofpjaaGreatDoor
/- store: a series' evict. -/
namespace Go.Proofs.YtedcdhngiofpjaaGreatDoor
open Go Go.Proofs Go.RowKit Go.Shelf
set_option maxRecDepth 100000
attribute [local go_sem] Oper.semAt_some
theorem boxed_same {B : Nat} {M : List Nat} {A A' : World} {b : Nat} {T : TypeId} {v : Value} (h : Boxed A b T v) (t : Same B M A A') (hb : b < B) : Boxed A' b T v :=
  (t.block b (.inl hb) (Array.getElem?_eq_some_iff.1 h).1).trans h
theorem boxed_turn {O : List Nat} {A A' : World} {b : Nat} {T : TypeId} {v : Value} (h : Boxed A b T v) (t : Turn O A A') (hb : b ∉ O) : Boxed A' b T v := t.at hb h
/-- how many samples lie in some panes -/
def cntP (ps : List (Int × Pa)) : Nat := (ps.map fun e => e.2.L.length).sum
theorem cntP_snoc (ps : List (Int × Pa)) (e : Int × Pa) : cntP (ps ++ [e]) = cntP ps + e.2.L.length := by simp [cntP]
theorem cntP_app (ps qs : List (Int × Pa)) : cntP (ps ++ qs) = cntP ps + cntP qs := by simp [cntP]
theorem cntP_le (ps : List (Int × Pa)) (h : ∀ e ∈ ps, e.2.L.length ≤ 100) : cntP ps ≤ ps.length * 100 := by
  induction ps with
  | nil => simp [cntP]
  | cons e t ih =>
    have h1 := h e (by simp)
    have h2 := ih (fun x hx => h x (by simp [hx]))
    unfold cntP at *
    simp only [List.map_cons, List.sum_cons, List.length_cons]
    omega
def EvO (s : Sr) (T : Int) : Sr → Prop := fun s' => s'.sb = s.sb ∧ s'.lv = s.lv ∧ s'.ls = s.ls ∧ s'.ps = s.ps.filter (fun e => decide (T < e.1)) ∧ ∀ b ∈ s'.O, b ∈ s.O
def EvPost (s : Sr) (T : Int) (w : World) (e : Ending) (w' : World) : Prop :=
  e = .returned (.int .i64 (cntP (s.ps.filter (fun e => decide (e.1 ≤ T))) : Int)) ∧ ∃ s', EvO s T s' ∧ SerAt w' s' ∧ Turn s.own w w'
/-- ahead of a round -/
structure EvI (s : Sr) (T : Int) (w : World) (k : Int) (r : List EnI) (W : World) (s' : Sr) (pre : List (Int × Pa)) : Prop where
  parts : s.ps = pre ++ s'.ps
  ents : entsI s'.ps = r
  old : ∀ e ∈ pre, e.1 ≤ T
  key : ∀ e ∈ s'.ps, k < e.1
  sb : s'.sb = s.sb
  lv : s'.lv = s.lv
  ls : s'.ls = s.ls
  O : ∀ b ∈ s'.O, b ∈ s.O
  ser : SerAt W s'
  bo : Boxed W w.heap.size 86 (.pointer (some ⟨s.sb, 0, none⟩))
  bt : Boxed W (w.heap.size + 1) 2 (.int .i64 T)
  bg : Boxed W (w.heap.size + 2) 3 (.int .i64 (cntP pre : Int))
  bm : Boxed W (w.heap.size + 3) 149 (.pointer (some ⟨s.sb, 1, none⟩))
  turn : Turn s.own w W
theorem ser_ext {w w' : World} {s : Sr} (h : SerAt w s) {pv' : Value} {O' : List Nat} {ps' : List (Int × Pa)} (hb : w'.heap[s.sb]? = some (.cells #[s.lv, pv'] TSer (0, 0))) (hm : MapI w' pv' (entsI ps') O') (ht : Turn (s.sb :: s.O) w w') (hs : ∀ e ∈ ps', e ∈ s.ps) (hsr : Srt ltI ps') (hl : ps'.length ≤ s.ps.length) (hd : (ps'.map (·.2.blk)).Nodup) :
    SerAt w' { s with pv := pv', O := O', ps := ps' } := by
  refine ⟨hb, row_keep14 h.lab (fun b hb => ?_), hm, fun e he => ?_, hsr, Nat.le_trans hl h.len, fun e he => h.ok e (hs e he), hd⟩
  · have := h.lab_not h b hb
    refine ht.block b (h.lab_lt b hb) (fun q => this ?_)
    simp only [Sr.own, List.mem_cons, List.mem_append] at q ⊢
    rcases q with q | q
    · exact .inl q
    · exact .inr (.inl q)
  · have hc := h.cells e (hs e he)
    obtain ⟨n1, n2⟩ := h.cell_not e (hs e he)
    refine ht.at (fun q => ?_) hc
    rcases List.mem_cons.1 q with q | q
    · exact n1 q
    · exact n2 q
theorem head_lo {es : List EnI} {x : EnI} {r : List EnI} (e : es = x :: r) (hs : Srt ltI es) : loL ltI es x.1 = [] ∧ getL es x.1 = some x.2 := by
  subst e
  refine ⟨List.filter_eq_nil_iff.2 (fun y hy => ?_), by simp [getL]⟩
  rcases List.mem_cons.1 hy with rfl | hy
  · simp [stoI.irr]
  · rw [stoI.asym ((List.pairwise_cons.1 hs).1 y hy)]; simp
theorem ser_drop_call {w : World} {s : Sr} (h : SerAt w s) {e0 : Int × Pa} {rest : List (Int × Pa)} (hp : s.ps = e0 :: rest) :
    Calls Tryz.prog 80 #[.pointer (some ⟨s.sb, 1, none⟩), .int .i64 e0.1] w fun e w' => (∃ r, e = .returned r) ∧ ∃ s', s'.sb = s.sb ∧ s'.lv = s.lv ∧ s'.ls = s.ls ∧ s'.ps = rest ∧ (∀ b ∈ s'.O, b ∈ s.O) ∧ SerAt w' s' ∧ Turn s.own w w' := by
  have he : entsI s.ps = (e0.1, e0.2.blk) :: entsI rest := by rw [hp]; rfl
  obtain ⟨hlo, hg⟩ := head_lo he (ents_srt h.srt)
  have hpos : posL ltI (entsI s.ps) e0.1 = 0 := by unfold posL; rw [hlo]; rfl
  obtain ⟨q1, q2, q3, q4⟩ := at_pos_some stoI (ents_srt h.srt) hg
  rw [hpos] at q1 q3 q4
  have hl : (entsI s.ps).length = s.ps.length := by unfold entsI; simp
  have hpi := pos_iff stoI (ents_srt h.srt) e0.1
  rw [hpos] at hpi
  refine (dropI_any s.sb 1 #[s.lv, s.pv] TSer s.pv (entsI s.ps) s.O e0.1 0 w h.blk rfl h.map h.sb_not (by rw [hl]; exact h.len) (by rw [hl, hp]; simp) hpi (by unfold hereI; rw [q1]; simp)).mono ?_
  rintro e w' ⟨hr, v', O', d1, d2, d3, d4⟩
  have hes : (entsI s.ps).take 0 ++ (entsI s.ps).drop (0 + 1) = entsI rest := by rw [he]; rfl
  rw [hes] at d2
  refine ⟨hr, { s with pv := v', O := O', ps := rest }, rfl, rfl, rfl, rfl, d4, ser_ext h (by simpa using d1) d2 d3 (fun x hx => by rw [hp]; simp [hx]) ?_ (by rw [hp]; simp) ?_, d3.mono (fun b hb => ?_)⟩
  · have := h.srt; rw [hp] at this; exact (List.pairwise_cons.1 this).2
  · have := h.dis; rw [hp] at this; simp only [List.map_cons, List.nodup_cons] at this; exact this.2
  · simp only [Sr.own, List.mem_cons, List.mem_append] at hb ⊢
    rcases hb with hb | hb
    · exact .inl hb
    · exact .inr (.inl hb)
theorem EvI.own {s : Sr} {T : Int} {w : World} {k : Int} {r : List EnI} {A : World} {s' : Sr} {pre : List (Int × Pa)} (h : EvI s T w k r A s' pre) : ∀ b ∈ s'.own, b ∈ s.own := fun b hb => by
  simp only [Sr.own, List.mem_cons, List.mem_append, List.mem_map] at hb ⊢
  rcases hb with hb | hb | ⟨e, he, hb⟩
  · exact .inl (hb.trans h.sb)
  · exact .inr (.inl (h.O b hb))
  · exact .inr (.inr ⟨e, by rw [h.parts]; simp [he], hb⟩)
/-- how the loop may be left -/
def EvX (s : Sr) (T : Int) (w : World) (cd : Code) (W : World) : Prop := cd = .exit 0 ∧ ∃ s' pre k r e0 rest, EvI s T w k r W s' pre ∧ s'.ps = e0 :: rest ∧ T < e0.1
def EvN (s : Sr) (T : Int) (w : World) (st : StI) (W : World) : Prop := ∃ s' pre, EvI s T w st.1 st.2 W s' pre
theorem EvI.same {s : Sr} {T : Int} {w : World} {k : Int} {r : List EnI} {A A' : World} {s' : Sr} {pre : List (Int × Pa)} {B : Nat} {M : List Nat} (h : EvI s T w k r A s' pre) (hs : SerAt w s) (t : Same B M A A') (hB : w.heap.size + 5 ≤ B) : EvI s T w k r A' s' pre := by
  have ho := h.own
  refine ⟨h.parts, h.ents, h.old, h.key, h.sb, h.lv, h.ls, h.O, h.ser.same t (fun b hb => .inl (by have := hs.lt b (ho b hb); omega)) (fun b hb => by rw [h.lv] at hb; have := hs.lab_lt b hb; omega),
    boxed_same h.bo t (by omega), boxed_same h.bt t (by omega), boxed_same h.bg t (by omega), boxed_same h.bm t (by omega), ?_⟩
  exact ⟨t.os.trans h.turn.os, t.tape.trans h.turn.tape, t.output.trans h.turn.output, Nat.le_trans h.turn.size t.size, fun k hk hn => (t.block k (.inl (by omega)) (Nat.lt_of_lt_of_le hk h.turn.size)).trans (h.turn.block k hk hn)⟩
theorem ev_fin {s : Sr} {T : Int} {w : World} {k : Int} {r : List EnI} {W : World} {s' : Sr} {pre : List (Int × Pa)} (h : EvI s T w k r W s' pre) (hs : SerAt w s) {D : Nat} (hD : w.heap.size ≤ D) (hend : s'.ps = [] ∨ ∃ e0 rest, s'.ps = e0 :: rest ∧ T < e0.1) :
    EvPost s T w (.returned (.int .i64 (cntP pre : Int))) (W.putObj D (.deferred none)) := by
  have h1 : pre.filter (fun e => decide (T < e.1)) = [] := List.filter_eq_nil_iff.2 (fun e he => by have := h.old e he; simp; omega)
  have h2 : pre.filter (fun e => decide (e.1 ≤ T)) = pre := List.filter_eq_self.2 (fun e he => by have := h.old e he; simp; omega)
  have h34 : s'.ps.filter (fun e => decide (T < e.1)) = s'.ps ∧ s'.ps.filter (fun e => decide (e.1 ≤ T)) = [] := by
    rcases hend with q | ⟨e0, rest, q, hT⟩
    · rw [q]; exact ⟨rfl, rfl⟩
    · have hsr := h.ser.srt
      rw [q] at hsr ⊢
      have hall : ∀ e ∈ e0 :: rest, T < e.1 := fun e he => by
        rcases List.mem_cons.1 he with rfl | he
        · exact hT
        · have := (List.pairwise_cons.1 hsr).1 e he
          simp [ltI] at this; omega
      exact ⟨List.filter_eq_self.2 (fun e he => by simpa using hall e he), List.filter_eq_nil_iff.2 (fun e he => by have := hall e he; simp; omega)⟩
  have hnm : D ∉ s'.own := fun hm => by have := hs.lt D (h.own D hm); omega
  refine ⟨by rw [h.parts, List.filter_append, h2, h34.2, List.append_nil], s', ⟨h.sb, h.lv, h.ls, by rw [h.parts, List.filter_append, h1, h34.1]; rfl, h.O⟩, h.ser.keep (fun b hb => World.putObj_heap_other (fun e => ?_)), ?_⟩
  · subst e
    rcases hb with hb | hb
    · exact hnm hb
    · rw [h.lv] at hb
      have := hs.lab_lt b hb; omega
  · have ht := h.turn
    exact ⟨ht.os, ht.tape, ht.output, by have := ht.size; simpa using this, fun k hk hn => (World.putObj_heap_other (by omega)).trans (ht.block k hk hn)⟩
/-- the slots in a round -/
abbrev EvT (s : Sr) (T : Int) (n : Nat) (k : Int) (b : Nat) : Array Value := #[.pointer (some ⟨s.sb, 0, none⟩), .int .i64 T, .pointer (some ⟨n, 0, none⟩), .pointer (some ⟨n + 1, 0, none⟩), .int .i64 0, .pointer (some ⟨n + 1 + 1, 0, none⟩), .int .i64 k, .pointer (some ⟨b, 0, none⟩),
  .pointer (some ⟨s.sb, 0, none⟩), .pointer (some ⟨s.sb, 0, none⟩), .pointer (some ⟨s.sb, 1, none⟩), .func (.func 83) #[] #[.pointer (some ⟨n + 1 + 1 + 1, 0, none⟩), .pointer (some ⟨n + 1 + 1 + 1 + 1, 0, none⟩)], .int .i64 k, .pointer (some ⟨b, 0, none⟩), undef, undef, undef, undef, undef, undef, undef, undef, undef, undef, undef, undef, undef, undef, undef, undef]
set_option maxHeartbeats 8000000 in
theorem evict_any (s : Sr) (T : Int) (w : World) (h : SerAt w s) :
    CallsIn Fence.wide 9 Tryz.prog 42 #[.pointer (some ⟨s.sb, 0, none⟩), .int .i64 T] w (EvPost s T w) := by
  have hsb : s.sb < w.heap.size := h.lt _ (by simp [Sr.own])
  have HAb := Lib.hid (fun W => aboveI_any (some ⟨s.sb, 1, none⟩) (-1) W)
  refine callsIn_of_wp_marks Tryz.func42 rfl trivial ?_ rfl
  simp only [Tryz.ntmps42, List.size_toArray, List.length_cons, List.length_nil, Nat.reduceAdd, Nat.reduceSub, Array.replicate_succ, Array.replicate_zero, List.push_toArray, List.append_toArray, List.nil_append, List.cons_append]
  have HH := Lib.hid h
  clear h
  gi_wp2_with fail
  refine ⟨trivial, (callsIn_wide.2 (HAb.out _)).mono ?_⟩
  rintro e w1 ⟨rfl, rfl⟩
  gi_wp2
  obtain ⟨W0, hW0⟩ : ∃ W0, ((((w.alloc (.cells #[.pointer (some ⟨s.sb, 0, none⟩)] 86)).alloc (.cells #[.int .i64 T] 2)).alloc (.cells #[.int .i64 0] 3)).alloc (.cells #[.pointer (some ⟨s.sb, 1, none⟩)] 149)).alloc (.cells #[.int .i64 (-1)] 2) = W0 := ⟨_, rfl⟩
  rw [hW0]
  have hs0 : W0.heap.size = w.heap.size + 5 := by rw [← hW0]; simp
  have tb0 : Turn s.own w W0 := by rw [← hW0]; exact (((((Turn.refl _ w).alloc _).alloc _).alloc _).alloc _).alloc _
  have hb0 : Below w.heap.size w W0 := by rw [← hW0]; go_grown
  have B0 : Boxed W0 w.heap.size 86 (.pointer (some ⟨s.sb, 0, none⟩)) := by rw [← hW0]; exact ((((Boxed.new w _ _).alloc _).alloc _).alloc _).alloc _
  have B1 : Boxed W0 (w.heap.size + 1) 2 (.int .i64 T) := by
    rw [← hW0]
    have q := Boxed.new (w.alloc (.cells #[.pointer (some ⟨s.sb, 0, none⟩)] 86)) 2 (.int .i64 T)
    rw [World.size_alloc] at q
    exact ((q.alloc _).alloc _).alloc _
  have B2 : Boxed W0 (w.heap.size + 2) 3 (.int .i64 0) := by
    rw [← hW0]
    have q := Boxed.new ((w.alloc (.cells #[.pointer (some ⟨s.sb, 0, none⟩)] 86)).alloc (.cells #[.int .i64 T] 2)) 3 (.int .i64 0)
    rw [World.size_alloc, World.size_alloc] at q
    exact (q.alloc _).alloc _
  have B3 : Boxed W0 (w.heap.size + 3) 149 (.pointer (some ⟨s.sb, 1, none⟩)) := by
    rw [← hW0]
    have q := Boxed.new (((w.alloc (.cells #[.pointer (some ⟨s.sb, 0, none⟩)] 86)).alloc (.cells #[.int .i64 T] 2)).alloc (.cells #[.int .i64 0] 3)) 149 (.pointer (some ⟨s.sb, 1, none⟩))
    rw [World.size_alloc, World.size_alloc, World.size_alloc] at q
    exact q.alloc _
  have B4 : Boxed W0 (w.heap.size + 4) 2 (.int .i64 (-1)) := by
    rw [← hW0]
    have q := Boxed.new ((((w.alloc (.cells #[.pointer (some ⟨s.sb, 0, none⟩)] 86)).alloc (.cells #[.int .i64 T] 2)).alloc (.cells #[.int .i64 0] 3)).alloc (.cells #[.pointer (some ⟨s.sb, 1, none⟩)] 149)) 2 (.int .i64 (-1))
    rw [World.size_alloc, World.size_alloc, World.size_alloc, World.size_alloc] at q
    exact q
  clear hW0
  refine rangeG (F := Fence.wide) (n := 9) (γ := Unit) rfl (by omega) (gf := 83) (lb := #[.pointer (some ⟨w.heap.size + 1 + 1 + 1, 0, none⟩), .pointer (some ⟨w.heap.size + 1 + 1 + 1 + 1, 0, none⟩)]) rfl trivial (enters_of Tryz.func83 (by kernel_rfl) rfl)
    (aboveI_stops (fun _ : Unit => []) (w.heap.size + 3) (w.heap.size + 4) s.sb 1 (-1) (entsI s.ps) W0 B4.cell) (Below.refl _ _) (fun _ => rfl)
    (fun st _ W => EvN s T w st W)
    (fun cd _ W => EvX s T w cd W)
    () (fun st c A A' hi t => by obtain ⟨s', pre, q⟩ := hi; exact ⟨s', pre, q.same HH.out t (by omega)⟩)
    (fun cd c A A' hi t => by obtain ⟨q0, s', pre, k, r, e0, rest, q, q1⟩ := hi; exact ⟨q0, s', pre, k, r, e0, rest, q.same HH.out t (by omega), q1⟩)
    (fun _ hk => nomatch hk) ⟨s, [], ⟨rfl, rfl, fun _ hx => (nomatch hx), fun e he => by have := (HH.out.ok e he).k0; show (-1 : Int) < e.1; omega, rfl, rfl, rfl, fun _ q => q, HH.out.below hb0, B0, B1, B2, B3, tb0⟩⟩
    ?pre
    (fun x a' _ => a' = { tmps := EvT s T w.heap.size x.1 x.2, defers := [] })
    (fun x a' A A' hx _ => hx) ?assign ?body ?done ?stop
  case pre =>
    rintro st c W ⟨s', pre, q⟩
    refine ⟨q.bm.cell, s'.pv, entsI s'.ps, s'.O, ?_, q.ser.map, by unfold entsI; have := q.ser.len; simp; omega, ents_srt q.ser.srt, ?_⟩
    · have := q.ser.blk
      rw [q.sb] at this
      exact (cell_of_row W s.sb 1 _ _ _ this).trans rfl
    · rw [← q.ents]
      refine List.filter_eq_self.2 (fun y hy => ?_)
      obtain ⟨e, he, rfl⟩ := List.mem_map.1 hy
      have := q.key e he
      simpa [ltI] using this
  case assign =>
    rintro l' st x st' c W K hI hnx _ hK
    simp only [enI]
    have HI := Lib.hid hI
    clear hI
    gi_wp2
    exact hK _ _ (Step.refl (fun _ q => nomatch q)) HI.out rfl
  case body =>
    rintro l' ⟨k, r⟩ x st' c a' W hl _ _ ⟨s', pre, hi⟩ hnx rfl
    obtain ⟨e0, rest, hp⟩ : ∃ e0 rest, s'.ps = e0 :: rest := by
      cases q : s'.ps with
      | nil =>
        have := hi.ents
        rw [q] at this
        subst this
        cases hnx
      | cons e0 rest => exact ⟨e0, rest, rfl⟩
    have he := hi.ents
    rw [hp] at he
    dsimp only at he
    subst he
    obtain ⟨rfl, rfl⟩ : (e0.1, e0.2.blk) = x ∧ (e0.1, entsI rest) = st' := by simpa [nxI, entsI] using hnx
    clear hnx
    unfold EvT
    dsimp only
    have t1 := hi.bt.cell
    have HI := Lib.hid hi
    have HP := Lib.hid hp
    by_cases hT : T < e0.1
    · clear hi hp
      gi_wp2
      exact ⟨(), ⟨rfl, s', pre, k, _, e0, rest, HI.out, HP.out, hT⟩, Step.refl (fun _ q => nomatch q)⟩
    · have hm : e0 ∈ s'.ps := by rw [hp]; simp
      have hcl := hi.ser.cells e0 hm
      have hok := hi.ser.ok e0 hm
      have hlen := hok.len
      have g1 := hi.bg.cell
      have g2 := hi.bg.frozen
      have o1 := hi.bo.cell
      have c1 : W.cell? ⟨e0.2.blk, 0, none⟩ = some (.int .i64 (e0.2.L.length : Int)) := by
        rw [cell_of_row W _ 0 _ _ _ hcl, ← ofR_c]
        rfl
      have hcp : cntP pre ≤ 10000 := by
        have h1 := cntP_le pre (fun e he => (HH.out.ok e (by rw [hi.parts]; simp [he])).len)
        have h2 := HH.out.len
        rw [hi.parts, List.length_append] at h2
        omega
      have hw : IntKind.i64.wrap ((cntP pre : Int) + (e0.2.L.length : Int)) = (cntP pre : Int) + (e0.2.L.length : Int) := by rw [IntKind.wrap_i64]; omega
      have hw2 : wrap64 ((cntP pre : Int) + (e0.2.L.length : Int)) = (cntP pre : Int) + (e0.2.L.length : Int) := by rw [wrap64]; omega
      have HC := Lib.hid (cntP_snoc pre e0)
      have gne : w.heap.size + 2 ∉ s'.own ∧ ∀ b, s'.lv.ownBlock = some b → b ≠ w.heap.size + 2 := by
        have hlt := hi.ser
        refine ⟨fun hm => ?_, fun b hb q => ?_⟩
        · obtain ⟨cs, TT, q, hTT⟩ := hi.ser.ty _ hm
          have := q.symm.trans hi.bg
          simp only [Option.some.injEq, Obj.cells.injEq] at this
          rcases hTT with rfl | rfl | rfl | rfl <;> exact absurd this.2.1 (by decide)
        · obtain ⟨cs, q2⟩ := row_lt14 hi.ser.lab b hb
          subst q
          have := q2.symm.trans hi.bg
          simp [TLab] at this
      have W3e := Lib.hid (show SerAt ((W.setCell ⟨w.heap.size + 1 + 1, 0, none⟩ (.int .i64 ((cntP pre : Int) + (e0.2.L.length : Int)))).drew) s' from hi.ser.turn (Turn.set W (w.heap.size + 1 + 1) 0 _).drew (fun b hb q => gne.1 (by simpa using (List.mem_singleton.1 q) ▸ hb)) (fun b hb q => gne.2 b hb (List.mem_singleton.1 q)))
      have HD := ser_drop_call W3e.out hp
      rw [hi.sb] at HD
      have HD := Lib.hid HD
      clear hi hp hm hcl hok hlen gne
      gi_wp2
      gi_region
      all_goals
        gi_wp2_with fail
        refine ⟨trivial, (callsIn_wide.2 HD.out).mono ?_⟩
        rintro e W4 ⟨⟨r0, rfl⟩, hdr⟩
        have HR := Lib.hid hdr
        clear hdr HD
        gi_wp2
        obtain ⟨s2, q1, q2, q3, q4, q5, q6, q7⟩ := HR.out
        have hi := HI.out
        have hlt := HH.out.lt
        have hnm : ∀ j, w.heap.size ≤ j → j ∉ s'.own := fun j hj hm => by have := hlt j (hi.own j hm); omega
        have t3 : Turn [w.heap.size + 2] W ((W.setCell ⟨w.heap.size + 1 + 1, 0, none⟩ (.int .i64 ((cntP pre : Int) + (e0.2.L.length : Int)))).drew) := (Turn.set W (w.heap.size + 1 + 1) 0 _).drew
        refine ⟨(), ⟨s2, pre ++ [e0], ⟨by rw [q4, hi.parts, HP.out]; simp, by rw [q4], ?_, ?_, q1, q2.trans hi.lv, q3.trans hi.ls, fun b hb => hi.O b (q5 b hb), q6, ?_, ?_, ?_, ?_, ?_⟩⟩, ?_⟩
        · intro e he
          rcases List.mem_append.1 he with he | he
          · exact hi.old e he
          · simp at he; subst he; omega
        · intro e he
          rw [q4] at he
          have := hi.ser.srt
          rw [HP.out] at this
          have := (List.pairwise_cons.1 this).1 e he
          simpa [ltI] using this
        · exact boxed_turn (boxed_turn hi.bo t3 (by simp)) q7 (hnm _ (Nat.le_refl _))
        · exact boxed_turn (boxed_turn hi.bt t3 (by simp)) q7 (hnm _ (by omega))
        · rw [HC.out]
          refine boxed_turn ?_ q7 (hnm _ (by omega))
          exact hi.bg.set (.int .i64 ((cntP pre : Int) + (e0.2.L.length : Int)))
        · exact boxed_turn (boxed_turn hi.bm t3 (by simp)) q7 (hnm _ (by omega))
        · exact (hi.turn.trans t3 (fun b hb => .inr (by simp at hb; omega))).trans q7 (fun b hb => .inl (hi.own b hb))
        · refine ⟨?_, fun k o hk _ ho => ?_, fun _ q => (nomatch q), fun _ q => (nomatch q)⟩
          · exact Nat.le_trans t3.size q7.size
          · exact q7.at (hnm k (by omega)) (t3.at (by simp; omega) ho)
  case done =>
    rintro D ⟨k, r⟩ c W hD hnx ⟨s', pre, hi⟩ _ hK
    have hr : r = [] := by
      cases r with
      | nil => rfl
      | cons _ _ => cases hnx
    have HF := Lib.hid (ev_fin hi HH.out (D := D) (by omega) (.inl (by
      have := hi.ents
      dsimp only at this
      rw [hr] at this
      unfold entsI at this
      simpa using this)))
    have g1 := hi.bg.cell
    clear hi hnx
    gi_wp2
    refine ⟨by simp, .inl ⟨_, _, rfl, run_takeDeferred hK, ?_⟩⟩
    refine ⟨_, by simp [results, Tryz.results42, go_sem], HF.out⟩
  case stop =>
    rintro D cd c W hD ⟨rfl, s', pre, k, r, e0, rest, hi, hp, hT⟩ _ hK
    have HF := Lib.hid (ev_fin hi HH.out (D := D) (by omega) (.inr ⟨e0, rest, hp, hT⟩))
    have g1 := hi.bg.cell
    clear hi hp
    gi_wp2
    refine ⟨by simp, .inl ⟨_, _, rfl, run_takeDeferred hK, ?_⟩⟩
    refine ⟨_, by simp [results, Tryz.results42, go_sem], HF.out⟩
end Go.Proofs.YtedcdhngiofpjaaGreatDoor
