/- store: a store in memory. -/
import Derived.Test.YtedcdhngiofpjaaGreatDoorSw1
namespace Go.Proofs.YtedcdhngiofpjaaGreatDoor
open Go Go.Proofs Go.RowKit Go.Shelf
set_option maxRecDepth 100000
def entsS (ss : List (List UInt8 × Sr)) : List EnS := ss.map fun e => (e.1, e.2.sb)
structure Sto where
  b : Nat
  grid : Int
  v : Value
  n : Int
  O : List Nat
  ss : List (List UInt8 × Sr)
def Sto.own (S : Sto) : List Nat := S.b :: (S.O ++ S.ss.flatMap fun e => e.2.own)
structure StAt (w : World) (S : Sto) : Prop where
  blk : w.heap[S.b]? = some (.cells #[.int .i64 S.grid, S.v, .int .i64 S.n] TSto (0, 0))
  map : MapS w S.v (entsS S.ss) S.O
  ser : ∀ e ∈ S.ss, SerAt w e.2
  key : ∀ e ∈ S.ss, e.1 = textL e.2.ls ∧ checkR e.2.ls = 0 ∧ e.2.ls ≠ []
  srt : Srt ltS S.ss
  len : S.ss.length ≤ 100
  dis : ∀ e ∈ S.ss, ∀ e' ∈ S.ss, e.1 ≠ e'.1 → ∀ b ∈ e.2.own, b ∉ e'.2.own
theorem entsS_srt {ss : List (List UInt8 × Sr)} (h : Srt ltS ss) : Srt ltS (entsS ss) := (srt_map (fun s : Sr => s.sb)).2 h
section
variable {w w' : World} {S : Sto}
theorem Sto.mem_own {b : Nat} : b ∈ S.own ↔ b = S.b ∨ b ∈ S.O ∨ ∃ e ∈ S.ss, b ∈ e.2.own := by
  simp only [Sto.own, List.mem_cons, List.mem_append, List.mem_flatMap]
theorem StAt.keep (h : StAt w S) (k : ∀ b, (b ∈ S.own ∨ ∃ e ∈ S.ss, e.2.lv.ownBlock = some b) → w'.heap[b]? = w.heap[b]?) : StAt w' S :=
  ⟨(k _ (.inl (Sto.mem_own.2 (.inl rfl)))).trans h.blk, h.map.keep (fun b hb => k b (.inl (Sto.mem_own.2 (.inr (.inl hb))))),
    fun e he => (h.ser e he).keep (fun b hb => k b (hb.imp (fun q => Sto.mem_own.2 (.inr (.inr ⟨e, he, q⟩))) (fun q => ⟨e, he, q⟩))), h.key, h.srt, h.len, h.dis⟩
/-- the types of its blocks -/
theorem StAt.ty (h : StAt w S) : ∀ b ∈ S.own, ∃ cs T, w.heap[b]? = some (.cells cs T (0, 0)) ∧ (T = TSto ∨ T = TLS ∨ T = TES ∨ T = TSer ∨ T = TLI ∨ T = TEI ∨ T = TC) := by
  intro b hb
  rcases Sto.mem_own.1 hb with rfl | hb | ⟨e, he, hb⟩
  · exact ⟨_, _, h.blk, .inl rfl⟩
  · rcases h.map with ⟨_, ho, _⟩ | ⟨_, R, E, cap, ho, _, h3, h4⟩
    · rw [ho] at hb; cases hb
    · rw [ho] at hb
      simp only [List.mem_cons, List.not_mem_nil, or_false] at hb
      rcases hb with rfl | rfl
      · exact ⟨_, _, h3, .inr (.inl rfl)⟩
      · obtain ⟨cur, q, _⟩ := h4
        exact ⟨_, _, q, .inr (.inr (.inl rfl))⟩
  · obtain ⟨cs, T, q, hT⟩ := (h.ser e he).ty b hb
    exact ⟨cs, T, q, .inr (.inr (.inr hT))⟩
theorem StAt.lt (h : StAt w S) : ∀ b ∈ S.own, b < w.heap.size := fun b hb => by
  obtain ⟨cs, T, q, _⟩ := h.ty b hb
  exact (Array.getElem?_eq_some_iff.1 q).1
theorem StAt.lab_lt (h : StAt w S) : ∀ e ∈ S.ss, ∀ b, e.2.lv.ownBlock = some b → b < w.heap.size := fun e he => (h.ser e he).lab_lt
theorem StAt.lab_not (h : StAt w S) {S' : Sto} (h' : StAt w S') : ∀ e ∈ S.ss, ∀ b, e.2.lv.ownBlock = some b → b ∉ S'.own := fun e he b hb hm => by
  obtain ⟨cs, q⟩ := row_lt14 (h.ser e he).lab b hb
  obtain ⟨cs', T, q', hT⟩ := h'.ty b hm
  rw [q] at q'
  simp only [Option.some.injEq, Obj.cells.injEq] at q'
  rcases hT with rfl | rfl | rfl | rfl | rfl | rfl | rfl <;> exact absurd q'.2.1 (by decide)
theorem StAt.below (h : StAt w S) (hb : Below w.heap.size w w') : StAt w' S := h.keep (fun b hm => hb.block b (hm.elim (h.lt b) (fun ⟨e, he, q⟩ => h.lab_lt e he b q)))
theorem StAt.turn {O : List Nat} (h : StAt w S) (t : Turn O w w') (hd : ∀ b ∈ S.own, b ∉ O) (hl : ∀ e ∈ S.ss, ∀ b, e.2.lv.ownBlock = some b → b ∉ O) : StAt w' S :=
  h.keep (fun b hm => hm.elim (fun q => t.block b (h.lt b q) (hd b q)) (fun ⟨e, he, q⟩ => t.block b (h.lab_lt e he b q) (hl e he b q)))
theorem StAt.same {B : Nat} {M : List Nat} (h : StAt w S) (t : Same B M w w') (hd : ∀ b ∈ S.own, b < B ∨ b ∈ M) (hl : ∀ e ∈ S.ss, ∀ b, e.2.lv.ownBlock = some b → b < B) : StAt w' S :=
  h.keep (fun b hm => hm.elim (fun q => t.block b (hd b q) (h.lt b q)) (fun ⟨e, he, q⟩ => t.block b (.inl (hl e he b q)) (h.lab_lt e he b q)))
/-- the store's own three blocks are no series' -/
theorem StAt.top_not (h : StAt w S) : (S.b ∉ S.O) ∧ ∀ e ∈ S.ss, S.b ∉ e.2.own ∧ ∀ b ∈ S.O, b ∉ e.2.own := by
  have hO : ∀ b ∈ S.O, ∃ cs T, w.heap[b]? = some (.cells cs T (0, 0)) ∧ (T = TLS ∨ T = TES) := fun b hb => by
    rcases h.map with ⟨_, ho, _⟩ | ⟨_, R, E, cap, ho, _, h3, h4⟩
    · rw [ho] at hb; cases hb
    · rw [ho] at hb
      simp only [List.mem_cons, List.not_mem_nil, or_false] at hb
      rcases hb with rfl | rfl
      · exact ⟨_, _, h3, .inl rfl⟩
      · obtain ⟨cur, q, _⟩ := h4
        exact ⟨_, _, q, .inr rfl⟩
  refine ⟨fun hm => ?_, fun e he => ⟨fun hm => ?_, fun b hb hm => ?_⟩⟩
  · obtain ⟨cs, T, q, hT⟩ := hO _ hm
    have := h.blk.symm.trans q
    simp only [Option.some.injEq, Obj.cells.injEq] at this
    rcases hT with rfl | rfl <;> exact absurd this.2.1 (by decide)
  · obtain ⟨cs, T, q, hT⟩ := (h.ser e he).ty _ hm
    have := h.blk.symm.trans q
    simp only [Option.some.injEq, Obj.cells.injEq] at this
    rcases hT with rfl | rfl | rfl | rfl <;> exact absurd this.2.1 (by decide)
  · obtain ⟨cs, T, q, hT⟩ := (h.ser e he).ty _ hm
    obtain ⟨cs', T', q', hT'⟩ := hO b hb
    have := q.symm.trans q'
    simp only [Option.some.injEq, Obj.cells.injEq] at this
    rcases hT with rfl | rfl | rfl | rfl <;> rcases hT' with rfl | rfl <;> exact absurd this.2.1 (by decide)
end
/-- one series turned, all else as it was -/
theorem st_set {w w' : World} {S : Sto} (h : StAt w S) {A B : List (List UInt8 × Sr)} {k : List UInt8} {s s' : Sr} (he : S.ss = A ++ (k, s) :: B) (hs : SerAt w' s') (hsb : s'.sb = s.sb) (hls : s'.ls = s.ls) (ht : Turn s.own w w') (hn : New s.own s'.own w) :
    StAt w' { S with ss := A ++ (k, s') :: B } := by
  have hm : (k, s) ∈ S.ss := by rw [he]; simp
  have hsr := h.srt
  rw [he] at hsr
  have hother : ∀ e, e ∈ A ∨ e ∈ B → e ∈ S.ss ∧ e.1 ≠ k := fun e hq => by
    refine ⟨by rw [he]; rcases hq with q | q <;> simp [q], fun q => ?_⟩
    obtain ⟨_, h2, h3⟩ := List.pairwise_append.1 hsr
    rcases hq with r | r
    · have := h3 e r (k, s) (by simp)
      rw [q, stoS.irr] at this; cases this
    · have := (List.pairwise_cons.1 h2).1 e r
      rw [q, stoS.irr] at this; cases this
  have hots : ∀ e, e ∈ A ∨ e ∈ B → SerAt w' e.2 := fun e hq => by
    obtain ⟨q1, q2⟩ := hother e hq
    exact (h.ser e q1).turn ht (h.dis e q1 (k, s) hm q2) (fun b hb => (h.ser e q1).lab_not (h.ser (k, s) hm) b hb)
  obtain ⟨t1, t2⟩ := h.top_not
  refine ⟨ht.at (t2 (k, s) hm).1 h.blk, ?_, fun e hq => ?_, fun e hq => ?_, ?_, ?_, fun e hq e' hq' hne b hb hb' => ?_⟩
  · have : entsS (A ++ (k, s') :: B) = entsS S.ss := by rw [he]; simp [entsS, hsb]
    show MapS w' S.v (entsS (A ++ (k, s') :: B)) S.O
    rw [this]
    exact h.map.turn ht (fun b hb => (t2 (k, s) hm).2 b hb)
  · rcases List.mem_append.1 hq with q | q
    · exact hots e (.inl q)
    · rcases List.mem_cons.1 q with rfl | q
      · exact hs
      · exact hots e (.inr q)
  · rcases List.mem_append.1 hq with q | q
    · exact h.key e (hother e (.inl q)).1
    · rcases List.mem_cons.1 q with rfl | q
      · have := h.key (k, s) hm
        dsimp only at this ⊢
        rwa [hls]
      · exact h.key e (hother e (.inr q)).1
  · obtain ⟨h1, h2, h3⟩ := List.pairwise_append.1 hsr
    obtain ⟨h4, h5⟩ := List.pairwise_cons.1 h2
    exact List.pairwise_append.2 ⟨h1, List.pairwise_cons.2 ⟨h4, h5⟩, fun a ha b hb => by
      rcases List.mem_cons.1 hb with rfl | hb
      · exact h3 a ha (k, s) (by simp)
      · exact h3 a ha b (by simp [hb])⟩
  · have := h.len
    rw [he] at this
    simpa using this
  · have cl : ∀ e, e ∈ A ++ (k, s') :: B → e = (k, s') ∨ (e ∈ S.ss ∧ e.1 ≠ k) := fun e q => by
      rcases List.mem_append.1 q with q | q
      · exact .inr (hother e (.inl q))
      · rcases List.mem_cons.1 q with rfl | q
        · exact .inl rfl
        · exact .inr (hother e (.inr q))
    rcases cl e hq with rfl | ⟨q1, q2⟩ <;> rcases cl e' hq' with rfl | ⟨r1, r2⟩
    · exact hne rfl
    · rcases hn b hb with q | q
      · exact h.dis (k, s) hm e' r1 (fun x => r2 x.symm) b q hb'
      · have := (h.ser e' r1).lt b hb'; omega
    · rcases hn b hb' with q | q
      · exact h.dis e q1 (k, s) hm q2 b hb q
      · have := (h.ser e q1).lt b hb; omega
    · exact h.dis e q1 e' r1 hne b hb hb'
theorem set_own {S : Sto} {A B : List (List UInt8 × Sr)} {k : List UInt8} {s s' : Sr} {w : World} (he : S.ss = A ++ (k, s) :: B) (hn : New s.own s'.own w) : New S.own ({ S with ss := A ++ (k, s') :: B } : Sto).own w := fun b hb => by
  rcases Sto.mem_own.1 hb with q | q | ⟨e, q, r⟩
  · exact .inl (Sto.mem_own.2 (.inl q))
  · exact .inl (Sto.mem_own.2 (.inr (.inl q)))
  · rcases List.mem_append.1 q with q | q
    · exact .inl (Sto.mem_own.2 (.inr (.inr ⟨e, by rw [he]; simp [q], r⟩)))
    · rcases List.mem_cons.1 q with rfl | q
      · rcases hn b r with x | x
        · exact .inl (Sto.mem_own.2 (.inr (.inr ⟨(k, s), by rw [he]; simp, x⟩)))
        · exact .inr x
      · exact .inl (Sto.mem_own.2 (.inr (.inr ⟨e, by rw [he]; simp [q], r⟩)))
theorem ltS_text (zs : List SLab) : ltS [] (textL zs) = true := by
  have : textL zs ≠ [] := by
    intro e
    have := congrArg List.length e
    unfold textL at this
    simp at this
  cases h : textL zs with
  | nil => exact absurd h this
  | cons _ _ => rfl
/-- what a series holds; what a store holds -/
abbrev Con := List UInt8 × (List SLab × List (Int × List Nm))
def conP (ps : List (Int × Pa)) : List (Int × List Nm) := ps.map fun p => (p.1, p.2.L)
def con (e : List UInt8 × Sr) : Con := (e.1, (e.2.ls, conP e.2.ps))
def evP (T : Int) (ps : List (Int × List Nm)) : List (Int × List Nm) := ps.filter fun p => decide (T < p.1)
def evC (T : Int) (c : Con) : Option Con := if evP T c.2.2 = [] then none else some (c.1, (c.2.1, evP T c.2.2))
def goneC (T : Int) (c : Con) : Nat := ((c.2.2.filter fun p => decide (p.1 ≤ T)).map fun p => p.2.length).sum
theorem conP_ev (T : Int) (ps : List (Int × Pa)) : conP (ps.filter fun e => decide (T < e.1)) = evP T (conP ps) := by
  unfold conP evP
  rw [List.filter_map]
  rfl
theorem gone_ev (T : Int) (e : List UInt8 × Sr) : cntP (e.2.ps.filter fun e => decide (e.1 ≤ T)) = goneC T (con e) := by
  unfold cntP goneC con conP
  dsimp only
  rw [List.filter_map, List.map_map]
  rfl
end Go.Proofs.YtedcdhngiofpjaaGreatDoor
