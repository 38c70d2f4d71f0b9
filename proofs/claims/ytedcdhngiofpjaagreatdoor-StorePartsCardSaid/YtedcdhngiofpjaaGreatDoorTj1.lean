/- The loop's rule of Rg within a round of another loop: one block, no mark. -/
import Derived.Test.YtedcdhngiofpjaaGreatDoorSxI
import Derived.RangeFuncNested
import Derived.Test.YtedcdhngiofpjaaGreatDoorTi2
namespace Go.Proofs.YtedcdhngiofpjaaGreatDoor
open Go Go.Proofs Go.RowKit
set_option maxRecDepth 100000
theorem SeqG.inRound {σ γ α : Type} {F : Fence} {n : Nat} {P : Program} {g : Nat} {lb : Array Value} {encs : α → Array Value} {Mo : γ → List Nat} {nx : σ → Option (α × σ)} {Pre : σ → γ → World → Prop} {s0 : σ} {w : World} (l : Nat)
    (h : SeqG F n P g lb encs Mo nx Pre s0 w) : SeqG (F.inRound l) n P g lb encs Mo nx Pre s0 w := h
variable {F : Fence} {n : Nat} {P : Program}
theorem rangeGN {σ γ α : Type} {g : Operand} {ps : Array Tmp} {assign body : Code} {Q : Exit → Act → World → Prop} {a : Act} {w : World}
    {l₀ : Nat} {r₀ : Loop} (hro : F.round = some l₀) (hl₀ : w.heap[l₀]? = some (.loop r₀)) (h1 : 1 ≤ n) {gf : Nat} {lb : Array Value} (hg : a.eval g = .func (.func gf) #[] lb) (hFg : F.fn gf) (eg : ∀ args w, (callFunc gf args).run P w = .ok (.enter gf args) w)
    {encs : α → Array Value} {Mo : γ → List Nat} {nx : σ → Option (α × σ)} {Pre : σ → γ → World → Prop} {s0 : σ} {w0 : World} (hseq : SeqG F (n - 1) P gf lb encs Mo nx Pre s0 w0)
    (hb0 : Below w0.heap.size w0 w) (hps : ∀ x, (encs x).size = ps.size)
    (I : σ → γ → World → Prop) (Ix : Code → γ → World → Prop) (c0 : γ) (hI : ∀ s, Dep w.heap.size Mo (I s)) (hIx : ∀ c, Dep w.heap.size Mo (Ix c)) (hlt : ∀ k ∈ Mo c0, k < w.heap.size) (h0 : I s0 c0 w) (hPre : ∀ s c W, I s c W → Pre s c W)
    (Ax : α → Act → World → Prop) (hAx : ∀ x a' A A', Ax x a' A → Same w.heap.size [] A A' → Ax x a' A')
    (hassign : ∀ (l : Nat) (s : σ) (x : α) (s' : σ) (c : γ) (W : World) (K : Act → World → Prop), I s c W → nx s = some (x, s') → (∀ k ∈ Mo c, k < W.heap.size) → (∀ a' W', Step w.heap.size (Mo c) (Mo c) W W' → I s c W' → Ax x a' W' → K a' W') →
      assign.wpIn (F.inRound l) (n - 1 - 1) P (Exit.then K (fun _ _ _ => False)) { tmps := (ps.zip (encs x)).foldl (fun t (p, v) => t.setIfInBounds p v) a.tmps, defers := [] } W)
    (hbody : ∀ (l : Nat) (s : σ) (x : α) (s' : σ) (c : γ) (a' : Act) (W : World), w.heap.size ≤ l → (∃ r, W.heap[l]? = some (.loop r)) → (∀ k ∈ Mo c, k < W.heap.size) → I s c W → nx s = some (x, s') → Ax x a' W → body.wpIn (F.inRound l) (n - 1 - 1) P (postG w.heap.size Mo I Ix s' c W) a' W)
    (hdone : ∀ (s : σ) (c : γ) (W : World), nx s = none → I s c W → Q .normal a W)
    (hstop : ∀ (cd : Code) (c : γ) (W : World), Ix cd c W → cd.wpIn F n P Q a W) :
    (Code.rangeFunc g ps assign body).wpIn F n P Q a w := by
  refine wpIn_rangeFunc ?_
  intro fn hfn
  rw [hro]
  obtain ⟨rec, hrec⟩ : ∃ rec : LoopState → Option Code → Loop, rec = fun st pe => { state := st, pending := pe, fn, tmps := a.tmps, params := ps, assign, body, defers := r₀.defers } := ⟨_, rfl⟩
  obtain ⟨W1, hW1⟩ : ∃ W1, w.alloc (.loop (rec .ready none)) = W1 := ⟨_, rfl⟩
  have hs1 : W1.heap.size = w.heap.size + 1 := by rw [← hW1]; simp
  have hL1 : W1.heap[w.heap.size]? = some (.loop (rec .ready none)) := by rw [← hW1]; exact World.alloc_heap_new w _
  have hI1 : I s0 c0 W1 := by rw [← hW1]; exact hI _ _ _ _ h0 (Same.alloc _ _ _ _)
  have hb1 : Below w0.heap.size w0 W1 := by
    rw [← hW1]; exact hb0.trans (((Below.refl _ w).alloc (Nat.le_refl _) _).mono hb0.size)
  refine ⟨w.heap.size, [], W1, { target := .fn (.func gf) lb, args := #[.func (.yield w.heap.size) #[] #[]] }, W1, gf,
    #[.func (.yield w.heap.size) #[] #[]] ++ lb, W1, ?_, ?_, ?_, ?_, fun _ => h1, ?_⟩
  · rw [← hW1, hrec]; exact run_enterLoop_inner hl₀ _ _ _ _ _
  · simp only [resolve, hg]
    simp [go_sem]
  · intro f' hf'; simp [Target.leads] at hf'; subst hf'; exact hFg
  · simp [invoke, go_sem, eg]
  · have sub : ∀ {c : γ} {A A' : World}, Same W1.heap.size (Mo c) A A' → Same w.heap.size (Mo c) A A' := fun h => h.mono (fun k hk => hk.imp (fun q => by omega) id)
    refine (hseq (w.heap.size)
      (fun s c W => I s c W ∧ W.heap[w.heap.size]? = some (.loop (rec .ready none)) ∧ (∀ k ∈ Mo c, k ≠ w.heap.size ∧ k < W.heap.size))
      (fun c W => ∃ cd, Ix cd c W ∧ W.heap[w.heap.size]? = some (.loop (rec .done (some cd))) ∧ (∀ k ∈ Mo c, k ≠ w.heap.size))
      W1 c0 hb1
      (fun s c A B hs hg' => by
        have lt1 := (Array.getElem?_eq_some_iff.1 hs.2.1).1
        exact ⟨hI _ _ _ _ hs.1 (sub hg'), (hg'.block _ (.inl (by omega)) lt1).trans hs.2.1, fun k hk => ⟨(hs.2.2 k hk).1, Nat.lt_of_lt_of_le (hs.2.2 k hk).2 hg'.size⟩⟩)
      (fun c A B hs hg' => by
        obtain ⟨cd, hc, hl, hm⟩ := hs
        have lt1 := (Array.getElem?_eq_some_iff.1 hl).1
        exact ⟨cd, hIx _ _ _ _ hc (sub hg'), (hg'.block _ (.inl (by omega)) lt1).trans hl, hm⟩)
      (fun k hk => by have := hlt k hk; omega)
      (fun s c W hs => hPre s c W hs.1)
      ?_ ⟨hI1, hL1, fun k hk => by have := hlt k hk; omega⟩).mono ?_
    · rintro s x s' c W ⟨hi, hl, hm⟩ hnx
      have hy := run_yield (P := P) (args := encs x) hl (by rw [hrec]; exact hps x)
      rw [hrec] at hy
      refine ⟨fn, _, assign, body, hy, roundIn_of_wpIn hfn (hassign _ s x s' c W _ hi hnx (fun k hk => (hm k hk).2) ?_)⟩
      clear hy
      intro a' Wa hsa hia hax
      have nm2 : w.heap.size ∉ Mo c := fun h => (hm _ h).1 rfl
      have hla := hsa.same _ _ (Nat.le_refl _) nm2 hl
      have hlt : w.heap.size < Wa.heap.size := (Array.getElem?_eq_some_iff.1 hla).1
      refine ⟨_, run_beginRound hla (by rw [hrec]), ?_⟩
      obtain ⟨W2, hW2⟩ : ∃ W2, Wa.putObj (w.heap.size) (.loop { rec .ready none with state := .busy }) = W2 := ⟨_, rfl⟩
      rw [hW2]
      have hl2 : W2.heap[w.heap.size]? = some (.loop { rec .ready none with state := .busy }) := by rw [← hW2]; exact World.putObj_heap_same hlt
      have hi2 : I s c W2 := by rw [← hW2]; exact hI _ _ _ _ hia (Same.put _ (Nat.le_refl _) nm2)
      have hx2 : Ax x a' W2 := by rw [← hW2]; exact hAx _ _ _ _ hax (Same.put _ (Nat.le_refl _) (fun h => nomatch h))
      have hz2 : Wa.heap.size = W2.heap.size := by rw [← hW2]; simp
      have hsw : Step W1.heap.size (Mo c) (Mo c) W W2 := ⟨by have := hsa.size; omega, fun k o hB hM hk0 => by
        rw [← hW2]; exact (World.putObj_heap_other (by omega)).trans (hsa.same k o (by omega) hM hk0), fun _ q => .inl q, fun k q => by have := (hm k q).2; have := hsa.size; omega⟩
      refine wpIn_mono (hbody _ s x s' c a' W2 (Nat.le_refl _) ⟨_, hl2⟩ (fun k q => by have := (hm k q).2; have := hsa.size; omega) hi2 hnx hx2) ?_
      have fin : ∀ (jump : Option Code) (W3 : World) (c' : γ), Step w.heap.size (Mo c) (Mo c') W2 W3 →
          (Instr.endRound (w.heap.size) jump).run P W3 = .ok (.bool jump.isNone) (W3.putObj (w.heap.size) (.loop (rec (if jump.isNone then .ready else .done) jump))) ∧
          W3.heap[w.heap.size]? = some (.loop { rec .ready none with state := .busy }) ∧
          (W3.putObj (w.heap.size) (.loop (rec (if jump.isNone then .ready else .done) jump))).heap[w.heap.size]? = some (.loop (rec (if jump.isNone then .ready else .done) jump)) ∧
          (∀ k ∈ Mo c', k ≠ w.heap.size ∧ k < (W3.putObj (w.heap.size) (.loop (rec (if jump.isNone then .ready else .done) jump))).heap.size) ∧
          Step W1.heap.size (Mo c) (Mo c') W (W3.putObj (w.heap.size) (.loop (rec (if jump.isNone then .ready else .done) jump))) ∧
          Same w.heap.size (Mo c') W3 (W3.putObj (w.heap.size) (.loop (rec (if jump.isNone then .ready else .done) jump))) := fun jump W3 c' hk3 => by
        have hl3 := hk3.same _ _ (Nat.le_refl _) nm2 hl2
        have := run_endRound (P := P) jump hl3
        rw [hrec] at this ⊢
        have hm' : ∀ k ∈ Mo c', k ≠ w.heap.size ∧ k < W3.heap.size := fun k q => by
          have h3 := hk3.lt k q
          rcases hk3.new k q with r | r
          · exact ⟨(hm k r).1, h3⟩
          · exact ⟨by omega, h3⟩
        refine ⟨this, by rw [hrec] at hl3; exact hl3, World.putObj_heap_same (Array.getElem?_eq_some_iff.1 hl3).1,
          fun k q => ⟨(hm' k q).1, by simpa using (hm' k q).2⟩, ?_, Same.put _ (Nat.le_refl _) (fun h => (hm' _ h).1 rfl)⟩
        have h4 := hsw.trans (hk3.mono (by omega))
        exact ⟨by have := h4.size; simpa using this, fun k o hB hM hk0 => (World.putObj_heap_other (by omega)).trans (h4.same k o hB hM hk0), h4.new, fun k q => by simpa using h4.lt k q⟩
      rintro e a3 W3 hp
      cases e with
      | normal =>
        obtain ⟨c', hi3, hk3⟩ := hp
        obtain ⟨hr, hl3, hl4, hm4, hst, hsm⟩ := fin none W3 c' hk3
        exact ⟨_, _, hr, .inl ⟨rfl, c', ⟨hI _ _ _ _ hi3 hsm, hl4, hm4⟩, hst⟩⟩
      | ret =>
        obtain ⟨c', hi3, hk3⟩ := hp
        obtain ⟨hr, hl3, hl4, hm4, hst, hsm⟩ := fin (some .ret) W3 c' hk3
        exact ⟨_, _, hr, .inr ⟨rfl, c', ⟨.ret, hIx _ _ _ _ hi3 hsm, hl4, fun k q => (hm4 k q).1⟩, hst⟩⟩
      | exit id =>
        obtain ⟨c', hi3, hk3⟩ := hp
        obtain ⟨hr, hl3, hl4, hm4, hst, hsm⟩ := fin (some (.exit id)) W3 c' hk3
        exact ⟨_, _, hr, .inr ⟨rfl, c', ⟨.exit id, hIx _ _ _ _ hi3 hsm, hl4, fun k q => (hm4 k q).1⟩, hst⟩⟩
      | goto t =>
        obtain ⟨c', hi3, hk3⟩ := hp
        obtain ⟨hr, hl3, hl4, hm4, hst, hsm⟩ := fin (some (.goto t)) W3 c' hk3
        exact ⟨_, _, hr, .inr ⟨rfl, c', ⟨.goto t, hIx _ _ _ _ hi3 hsm, hl4, fun k q => (hm4 k q).1⟩, hst⟩⟩
      | panic ch => exact hp.elim
      | outgrown => exact hp.elim
    · rintro e W2 ⟨⟨v, rfl⟩, (⟨s, c, hs, hi, hl, hm⟩ | ⟨c, cd, hi, hl, hm⟩)⟩
      · exact ⟨none, _, by have := run_endLoop (P := P) hl (by rw [hrec]; simp); rw [hrec] at this; exact this, hdone s c _ hs (hI _ _ _ _ hi (Same.put _ (Nat.le_refl _) (fun h => (hm _ h).1 rfl)))⟩
      · exact ⟨some cd, _, by have := run_endLoop (P := P) hl (by rw [hrec]; simp); rw [hrec] at this; exact this, hstop cd c _ (hIx _ _ _ _ hi (Same.put _ (Nat.le_refl _) (fun h => hm _ h rfl)))⟩
end Go.Proofs.YtedcdhngiofpjaaGreatDoor
/- store: Twin: what its walk needs. -/
namespace Go.Proofs.YtedcdhngiofpjaaGreatDoor
open Go Go.Proofs Go.RowKit Go.Shelf
set_option maxRecDepth 100000
section
variable {F : Fence} {n : Nat} {P : Program} {ops : Array Oper} {Q : Exit → Act → World → Prop} {md : Region.Mode} {S : World → Prop} {m : Nat}
/-- two of which either can come -/
theorem anyM_two (i j : Nat) {o oj : Oper} {k : Nat} {l l' l'' : Array Bool} {a : Act} {w : World}
    (h : ∀ K : Act → World → Prop, (∀ b u, S u → anyM F n P md ops Q S m k l' b u → K b u) → o.wpIn F n P a w K Q)
    (h2 : ∀ K : Act → World → Prop, (∀ b u, S u → anyM F n P md ops Q S m k l'' b u → K b u) → oj.wpIn F n P a w K Q)
    (ho : ops[i]? = some o := by (simp only [qa, qb, qc]; exact rfl)) (hoj : ops[j]? = some oj := by (simp only [qa, qb, qc]; exact rfl)) (hr : Region.ready md ops l = [i, j] := by kernel_rfl) (hm : i ≠ m := by decide) (hmj : j ≠ m := by decide)
    (hw : Region.wanted o (yielded ops a.tmps) = true := by rfl) (hwj : Region.wanted oj (yielded ops a.tmps) = true := by rfl)
    (hl : l.setIfInBounds i true = l' := by (first | (simp only [qd, qe, qf]; done) | (simp only [qd, qe, qf]; with_reducible rfl) | with_reducible rfl))
    (hlj : l.setIfInBounds j true = l'' := by (first | (simp only [qd, qe, qf]; done) | (simp only [qd, qe, qf]; with_reducible rfl) | with_reducible rfl)) : anyM F n P md ops Q S m (k + 1) l a w := by
  subst hl hlj
  refine ⟨fun h0 => (by rw [hr] at h0; cases h0), fun x hx => ?_⟩
  rw [hr] at hx
  rcases List.mem_cons.1 hx with rfl | hx
  · unfold wpOpIn
    simp only [ho]
    rw [if_pos hw]
    exact h _ (fun b u hs hh => ⟨fun e => absurd e hm, fun _ => ⟨hs, hh⟩⟩)
  · obtain rfl := List.mem_singleton.1 hx
    unfold wpOpIn
    simp only [hoj]
    rw [if_pos hwj]
    exact h2 _ (fun b u hs hh => ⟨fun e => absurd e hmj, fun _ => ⟨hs, hh⟩⟩)
end
theorem cell_info : (Tryz.prog.info? TC).map (·.size) = some 74 := by kernel_rfl
section
variable {ops : Array Oper} {o : Oper} {a : Act} {w : World} {T : TypeId} {x y : Operand} {b : Nat} {cs : Array Value} {F : Fence} {n : Nat} {K : Act → World → Prop} {Q : Exit → Act → World → Prop}
theorem ldC_row {C : World → Prop} (hC : ∀ u, C u → u.heap[b]? = some (.cells cs T (0, 0))) (hcs : cs.size = 74) (hw : Region.wanted o (yielded ops a.tmps) = true) (ho : o.op = .load TC x) (hx : a.eval x = .pointer (some ⟨b, 0, none⟩)) :
    YieldsIf Tryz.prog ops C o (.agg cs) a := by
  refine .inl ⟨hw, fun w hw => ?_⟩
  unfold execOp
  simp only [ho, hx, Instr.loadAt, Instr.sureAddr, Sem.run_bind, Sem.run_pure, Result.andThen_ok, run_loadVar_row w b T TC cs (0, 0) _ (hC w hw) Tryz.underlying98 rfl (by rw [hcs]; exact cell_info)]
theorem stC_row {ds : Array Value} (H : w.heap[b]? = some (.cells cs T (0, 0))) (hcs : cs.size = 74) (ho : o.op = .store TC x y) (hx : a.eval x = .pointer (some ⟨b, 0, none⟩)) (hy : a.eval y = .agg ds) (hds : ds.size = 74) (h1 : ds.all (·.oneCell') = true)
    (k : K (a.put o.dst undef) (w.setRow b ds)) : o.wpIn F n Tryz.prog a w K Q := by
  unfold Oper.wpIn
  refine ⟨by simp [Oper.about, ho], ?_⟩
  rw [Oper.semAt_plain F _ _ (by rw [ho]; intro c hc'; cases hc')]
  simp only [execOp, ho, hx, hy, Instr.storeAt, Instr.sureAddr, Sem.run_bind, Sem.run_pure, Result.andThen_ok, run_storeVar_row w b T TC cs ds H (by rw [hds]; exact cell_info) (by rw [hds, hcs]) h1]
  exact k
end
theorem clC_one (L : List Nm) : (clC L).all (·.oneCell') = true := by
  rw [Array.all_eq_true_iff_forall_mem]
  intro x hx
  unfold clC pnC at hx
  simp only [List.mem_toArray, List.mem_append, List.mem_cons, List.mem_map, List.not_mem_nil, or_false] at hx
  rcases hx with (rfl | rfl | rfl | rfl | rfl | rfl | rfl | rfl | rfl) | ⟨_, _, rfl⟩ <;> rfl
/-- a block of a kind that no store has is none of a store's -/
theorem box_not {W : World} {T : Sto} (h : StAt W T) {b : Nat} {t : TypeId} {v : Value} (hb : Boxed W b t v) (ht : (t == TSto || t == TLS || t == TES || t == TSer || t == TLI || t == TEI || t == TC) = false) : b ∉ T.own := fun hm => by
  obtain ⟨cs, t', q, hT⟩ := h.ty b hm
  have := hb.symm.trans q
  simp only [Option.some.injEq, Obj.cells.injEq] at this
  obtain ⟨_, rfl, _⟩ := this
  rcases hT with rfl | rfl | rfl | rfl | rfl | rfl | rfl <;> revert ht <;> decide
theorem get_none14 {α : Type} {ss : List (List UInt8 × α)} {k : List UInt8} (h : ∀ e ∈ ss, e.1 ≠ k) : getL ss k = none := by
  unfold getL
  rw [Option.map_eq_none_iff, List.find?_eq_none]
  intro e he
  simpa using h e he
/-- above all: what is ahead of it, what is behind it -/
theorem cut_top14 {α : Type} {ss : List (List UInt8 × α)} {k : List UInt8} (h : ∀ e ∈ ss, ltS e.1 k = true) : loL ltS ss k = ss ∧ hiL ltS ss k = [] ∧ ∀ e ∈ ss, e.1 ≠ k := by
  refine ⟨?_, ?_, fun e he q => ?_⟩
  · unfold loL
    exact List.filter_eq_self.2 (fun e he => h e he)
  · unfold hiL
    refine List.filter_eq_nil_iff.2 (fun e he z => ?_)
    have := stoS.trans _ _ _ (h e he) z
    rw [stoS.irr] at this; cases this
  · have := h e he
    rw [q, stoS.irr] at this; cases this
theorem con_key14 {a b : List (List UInt8 × Sr)} (h : a.map con = b.map con) {k : List UInt8} (hb : ∀ e ∈ b, ltS e.1 k = true) : ∀ e ∈ a, ltS e.1 k = true := fun e he => by
  have : con e ∈ b.map con := by rw [← h]; exact List.mem_map.2 ⟨e, he, rfl⟩
  obtain ⟨e', he', q⟩ := List.mem_map.1 this
  have hk : e'.1 = e.1 := by have := congrArg Prod.fst q; exact this
  rw [← hk]; exact hb e' he'
/-- while a series is made in the twin -/
structure TwS (M N2 sb : Nat) (lv lw : Value) (u : World) : Prop where
  o : u.cell? ⟨M, 0, none⟩ = some (.pointer (some ⟨N2, 0, none⟩))
  s : u.cell? ⟨sb, 0, none⟩ = some lv
  n : u.cell? ⟨N2, 0, none⟩ = some lw
  f : u.frozen? ⟨N2, 0, none⟩ = false
/-- ahead of a round over the series: T: the twin, as far as it has come -/
structure TwO (S : Sto) (w : World) (N m tb : Nat) (st : StS) (T : Sto) (V : World) (pre rest : List (List UInt8 × Sr)) : Prop where
  parts : S.ss = pre ++ rest
  ents : entsS rest = st.2
  kd : ∀ e ∈ pre, ltS st.1 e.1 = false
  kr : ∀ e ∈ rest, ltS st.1 e.1 = true
  con : T.ss.map con = pre.map con
  b : T.b = tb
  grid : T.grid = S.grid
  n : T.n = S.n
  lvs : ∀ e ∈ T.ss, ∃ e' ∈ S.ss, e'.2.lv = e.2.lv
  own : ∀ x ∈ T.own, w.heap.size ≤ x
  st : StAt V T
  bn : Boxed V N 27 (.pointer (some ⟨tb, 0, none⟩))
  bm : Boxed V m 138 (.pointer (some ⟨S.b, 1, none⟩))
  B : Below w.heap.size w V
theorem TwO.same {S : Sto} {w : World} {N m tb : Nat} {st : StS} {T : Sto} {A A' : World} {pre rest : List (List UInt8 × Sr)} {B : Nat} (h : TwO S w N m tb st T A pre rest) (hs : StAt w S) (q : Same B T.own A A') (hN : N < B) (hm : m < B) (hB : w.heap.size ≤ B) : TwO S w N m tb st T A' pre rest :=
  ⟨h.parts, h.ents, h.kd, h.kr, h.con, h.b, h.grid, h.n, h.lvs, h.own, h.st.same q (fun b hb => .inr hb) (fun e he b hb => by
    obtain ⟨e', he', q⟩ := h.lvs e he
    rw [← q] at hb
    have := hs.lab_lt e' he' b hb; omega), boxed_same h.bn q hN, boxed_same h.bm q hm, h.B.trans ⟨q.os, q.tape, q.output, q.size, fun k hk => q.block k (.inl (by omega)) (Nat.lt_of_lt_of_le hk h.B.size)⟩⟩
/-- ahead of a round over a series' panes: T0, V0: the twin and memory as the series was made there -/
structure TwP (S : Sto) (w : World) (N M mi tb sb : Nat) (e0 : List UInt8 × Sr) (A : List (List UInt8 × Sr)) (O0 : List Nat) (V0 : World) (st : Int × List EnI) (T : Sto) (V : World) (s : Sr) (pre rest : List (Int × Pa)) : Prop where
  parts : e0.2.ps = pre ++ rest
  ents : entsI rest = st.2
  kd : ∀ e ∈ pre, ltI st.1 e.1 = false
  kr : ∀ e ∈ rest, ltI st.1 e.1 = true
  ss : T.ss = A ++ [(e0.1, s)]
  con : conP s.ps = conP pre
  sbe : s.sb = sb
  lv : s.lv = e0.2.lv
  ls : s.ls = e0.2.ls
  b : T.b = tb
  grid : T.grid = S.grid
  n : T.n = S.n
  new : New O0 T.own V0
  turn : Turn O0 V0 V
  st : StAt V T
  bN : Boxed V N 27 (.pointer (some ⟨tb, 0, none⟩))
  bM : Boxed V M 86 (.pointer (some ⟨sb, 0, none⟩))
  bm : Boxed V mi 149 (.pointer (some ⟨e0.2.sb, 1, none⟩))
  B : Below w.heap.size w V
  own : ∀ x ∈ T.own, w.heap.size ≤ x
  lvs : ∀ e ∈ T.ss, ∃ e' ∈ S.ss, e'.2.lv = e.2.lv
theorem TwP.same {S : Sto} {w : World} {N M mi tb sb : Nat} {e0 : List UInt8 × Sr} {A0 : List (List UInt8 × Sr)} {O0 : List Nat} {V0 : World} {st : Int × List EnI} {T : Sto} {A A' : World} {s : Sr} {pre rest : List (Int × Pa)} {B : Nat} (h : TwP S w N M mi tb sb e0 A0 O0 V0 st T A s pre rest) (hs : StAt w S) (q : Same B T.own A A') (hN : N < B) (hM : M < B) (hm : mi < B) (hB : w.heap.size ≤ B) (hV : V0.heap.size ≤ B) : TwP S w N M mi tb sb e0 A0 O0 V0 st T A' s pre rest :=
  ⟨h.parts, h.ents, h.kd, h.kr, h.ss, h.con, h.sbe, h.lv, h.ls, h.b, h.grid, h.n, h.new, ⟨q.os.trans h.turn.os, q.tape.trans h.turn.tape, q.output.trans h.turn.output, Nat.le_trans h.turn.size q.size, fun k hk hn => (q.block k (.inl (by omega)) (Nat.lt_of_lt_of_le hk h.turn.size)).trans (h.turn.block k hk hn)⟩,
   h.st.same q (fun b hb => .inr hb) (fun e he b hb => by
    obtain ⟨e', he', q⟩ := h.lvs e he
    rw [← q] at hb
    have := hs.lab_lt e' he' b hb; omega), boxed_same h.bN q hN, boxed_same h.bM q hM, boxed_same h.bm q hm, h.B.trans ⟨q.os, q.tape, q.output, q.size, fun k hk => q.block k (.inl (by omega)) (Nat.lt_of_lt_of_le hk h.B.size)⟩, h.own, h.lvs⟩
theorem srtI_cut14 {α : Type} {pre rest : List (Int × α)} {e0 : Int × α} (h : Srt ltI (pre ++ e0 :: rest)) : (∀ e ∈ pre ++ [e0], ltI e0.1 e.1 = false) ∧ (∀ e ∈ rest, ltI e0.1 e.1 = true) ∧ ∀ e ∈ pre, ltI e.1 e0.1 = true := by
  obtain ⟨_, h2, h3⟩ := List.pairwise_append.1 h
  obtain ⟨h4, _⟩ := List.pairwise_cons.1 h2
  refine ⟨fun e he => ?_, h4, fun e he => h3 e he e0 (by simp)⟩
  rcases List.mem_append.1 he with q | q
  · cases z : ltI e0.1 e.1 with
    | false => rfl
    | true =>
      have := stoI.trans _ _ _ (h3 e q e0 (by simp)) z
      rw [stoI.irr] at this; cases this
  · rw [List.mem_singleton.1 q]; exact stoI.irr _
theorem cutI_top14 {α : Type} {ss : List (Int × α)} {k : Int} (h : ∀ e ∈ ss, ltI e.1 k = true) : loL ltI ss k = ss ∧ hiL ltI ss k = [] := by
  refine ⟨?_, ?_⟩
  · unfold loL
    exact List.filter_eq_self.2 (fun e he => h e he)
  · unfold hiL
    refine List.filter_eq_nil_iff.2 (fun e he z => ?_)
    have := stoI.trans _ _ _ (h e he) z
    rw [stoI.irr] at this; cases this
/-- while a pane is copied -/
structure TwC (M N2 cb : Nat) (C : Array Value) (u : World) : Prop where
  o : u.cell? ⟨M, 0, none⟩ = some (.pointer (some ⟨N2, 0, none⟩))
  c : u.heap[cb]? = some (.cells C TC (0, 0))
end Go.Proofs.YtedcdhngiofpjaaGreatDoor
