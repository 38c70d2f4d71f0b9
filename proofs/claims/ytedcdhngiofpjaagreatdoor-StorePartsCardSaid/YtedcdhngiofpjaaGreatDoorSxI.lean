/- A loop over an iterator whose rounds may turn any memory that is the caller's: what was there ahead, and what the rounds themselves have laid (a list of blocks, told by a ghost). The iterator keeps to its own blocks. -/
import Derived.Test.YtedcdhngiofpjaaGreatDoorRangeJ
import Derived.Test.YtedcdhngiofpjaaGreatDoorAt
import Derived.Test.YtedcdhngiofpjaaGreatDoorMc
import Derived.Shelf.RegionOpen
import Derived.TacticsInMore
import Derived.LoopNIn
import Derived.LoopIn
namespace Go.Proofs.YtedcdhngiofpjaaGreatDoor
open Go Go.Proofs Go.RowKit
set_option maxRecDepth 100000
/-- below B, and in the blocks of M, all lies as it lay -/
structure Same (B : Nat) (M : List Nat) (A A' : World) : Prop where
  os : A'.os = A.os
  tape : A'.tape = A.tape
  output : A'.output = A.output
  size : A.heap.size ≤ A'.heap.size
  block : ∀ k, (k < B ∨ k ∈ M) → k < A.heap.size → A'.heap[k]? = A.heap[k]?
theorem Same.refl (B : Nat) (M : List Nat) (A : World) : Same B M A A := ⟨rfl, rfl, rfl, Nat.le_refl _, fun _ _ _ => rfl⟩
theorem Same.trans {B : Nat} {M : List Nat} {X Y Z : World} (h : Same B M X Y) (k : Same B M Y Z) : Same B M X Z := ⟨k.os.trans h.os, k.tape.trans h.tape, k.output.trans h.output, Nat.le_trans h.size k.size, fun i hi hl => (k.block i hi (Nat.lt_of_lt_of_le hl h.size)).trans (h.block i hi hl)⟩
theorem Same.mono {B B' : Nat} {M M' : List Nat} {X Y : World} (h : Same B M X Y) (hB : ∀ k, k < B' ∨ k ∈ M' → k < B ∨ k ∈ M) : Same B' M' X Y := ⟨h.os, h.tape, h.output, h.size, fun k hk hl => h.block k (hB k hk) hl⟩
theorem Same.below {B : Nat} {M : List Nat} {X Y : World} (h : Below X.heap.size X Y) : Same B M X Y := ⟨h.os, h.tape, h.output, h.size, fun k _ hl => h.block k hl⟩
theorem Same.alloc (B : Nat) (M : List Nat) (X : World) (o : Obj) : Same B M X (X.alloc o) := Same.below (below_cells o)
theorem Same.put {B : Nat} {M : List Nat} {X : World} {l : Nat} (o : Obj) (hB : B ≤ l) (hM : l ∉ M) : Same B M X (X.putObj l o) :=
  ⟨rfl, rfl, rfl, by simp, fun k hk _ => World.putObj_heap_other (fun e => by subst e; rcases hk with q | q; omega; exact hM q)⟩
theorem Same.set {B : Nat} {M : List Nat} {X : World} {b j : Nat} (v : Value) (hB : B ≤ b) (hM : b ∉ M) : Same B M X (X.setCell ⟨b, j, none⟩ v) :=
  ⟨rfl, rfl, rfl, by simp [World.setCell], fun k hk _ => Below.heap_setCell _ _ _ k (fun e => by dsimp only at e; subst e; rcases hk with q | q; omega; exact hM q)⟩
/-- it hangs on what lies below B and in the blocks that the ghost names -/
def Dep {γ : Type} (B : Nat) (Mo : γ → List Nat) (I : γ → World → Prop) : Prop := ∀ c A A', I c A → Same B (Mo c) A A' → I c A'
/-- from block B on all lies as it lay, but the blocks of M; what is of M' is of M or new -/
structure Step (B : Nat) (M M' : List Nat) (A A' : World) : Prop where
  size : A.heap.size ≤ A'.heap.size
  same : ∀ k o, B ≤ k → k ∉ M → A.heap[k]? = some o → A'.heap[k]? = some o
  new : ∀ k ∈ M', k ∈ M ∨ A.heap.size ≤ k
  lt : ∀ k ∈ M', k < A'.heap.size
theorem Step.refl {B : Nat} {M : List Nat} {A : World} (h : ∀ k ∈ M, k < A.heap.size) : Step B M M A A := ⟨Nat.le_refl _, fun _ _ _ _ q => q, fun _ q => .inl q, h⟩
theorem Step.trans {B : Nat} {M M' M'' : List Nat} {X Y Z : World} (h : Step B M M' X Y) (k : Step B M' M'' Y Z) : Step B M M'' X Z :=
  ⟨Nat.le_trans h.size k.size, fun i o hB hM q => k.same i o hB (fun hm => by
    rcases h.new i hm with r | r
    · exact hM r
    · have := (Array.getElem?_eq_some_iff.1 q).1; omega) (h.same i o hB hM q), fun i hi => by
    rcases k.new i hi with r | r
    · exact h.new i r
    · exact .inr (Nat.le_trans h.size r), k.lt⟩
theorem Step.mono {B B' : Nat} {M M' : List Nat} {X Y : World} (h : Step B M M' X Y) (hB : B ≤ B') : Step B' M M' X Y := ⟨h.size, fun k o hk => h.same k o (by omega), h.new, h.lt⟩
theorem Step.below {B : Nat} {M : List Nat} {X Y : World} (h : Below X.heap.size X Y) (hM : ∀ k ∈ M, k < X.heap.size) : Step B M M X Y := ⟨h.size, fun k o _ _ q => (h.block k (Array.getElem?_eq_some_iff.1 q).1).trans q, fun _ q => .inl q, fun k q => Nat.lt_of_lt_of_le (hM k q) h.size⟩
/-- how a loop's body may be left -/
def postG {σ γ : Type} (B : Nat) (Mo : γ → List Nat) (I : σ → γ → World → Prop) (Ix : Code → γ → World → Prop) (s' : σ) (c : γ) (W : World) : Exit → Act → World → Prop
  | .normal, _, W' => ∃ c', I s' c' W' ∧ Step B (Mo c) (Mo c') W W'
  | .ret, _, W' => ∃ c', Ix .ret c' W' ∧ Step B (Mo c) (Mo c') W W'
  | .exit id, _, W' => ∃ c', Ix (.exit id) c' W' ∧ Step B (Mo c) (Mo c') W W'
  | .goto t, _, W' => ∃ c', Ix (.goto t) c' W' ∧ Step B (Mo c) (Mo c') W W'
  | .panic _, _, _ => False
  | .outgrown, _, _ => False
/-- what an iterator owes a loop -/
def SeqG {σ γ α : Type} (F : Fence) (n : Nat) (P : Program) (g : Nat) (lb : Array Value) (encs : α → Array Value) (Mo : γ → List Nat) (nx : σ → Option (α × σ)) (Pre : σ → γ → World → Prop) (s0 : σ) (w : World) : Prop :=
  ∀ (l : Nat) (J : σ → γ → World → Prop) (Jx : γ → World → Prop) (W : World) (c0 : γ), Below w.heap.size w W → (∀ s, Dep W.heap.size Mo (J s)) → Dep W.heap.size Mo Jx → (∀ k ∈ Mo c0, k < W.heap.size) → (∀ s c W1, J s c W1 → Pre s c W1) →
    (∀ s x s' c W1, J s c W1 → nx s = some (x, s') → YieldAt F (n - 1) P l (encs x) W1 fun e W' =>
      (e = .returned (.bool true) ∧ ∃ c', J s' c' W' ∧ Step W.heap.size (Mo c) (Mo c') W1 W') ∨ (e = .returned (.bool false) ∧ ∃ c', Jx c' W' ∧ Step W.heap.size (Mo c) (Mo c') W1 W')) →
    J s0 c0 W →
    CallsIn F n P g (#[.func (.yield l) #[] #[]] ++ lb) W fun e W' => (∃ v, e = .returned v) ∧ ((∃ s c, nx s = none ∧ J s c W') ∨ ∃ c, Jx c W')
variable {F : Fence} {n : Nat} {P : Program}
theorem rangeG {σ γ α : Type} {g : Operand} {ps : Array Tmp} {assign body : Code} {Q : Exit → Act → World → Prop} {a : Act} {w : World}
    (hro : F.round = none) (h1 : 1 ≤ n) {gf : Nat} {lb : Array Value} (hg : a.eval g = .func (.func gf) #[] lb) (hFg : F.fn gf) (eg : ∀ args w, (callFunc gf args).run P w = .ok (.enter gf args) w)
    {encs : α → Array Value} {Mo : γ → List Nat} {nx : σ → Option (α × σ)} {Pre : σ → γ → World → Prop} {s0 : σ} {w0 : World} (hseq : SeqG F (n - 1) P gf lb encs Mo nx Pre s0 w0)
    (hb0 : Below w0.heap.size w0 w) (hps : ∀ x, (encs x).size = ps.size)
    (I : σ → γ → World → Prop) (Ix : Code → γ → World → Prop) (c0 : γ) (hI : ∀ s, Dep w.heap.size Mo (I s)) (hIx : ∀ c, Dep w.heap.size Mo (Ix c)) (hlt : ∀ k ∈ Mo c0, k < w.heap.size) (h0 : I s0 c0 w) (hPre : ∀ s c W, I s c W → Pre s c W)
    (Ax : α → Act → World → Prop) (hAx : ∀ x a' A A', Ax x a' A → Same w.heap.size [] A A' → Ax x a' A')
    (hassign : ∀ (l : Nat) (s : σ) (x : α) (s' : σ) (c : γ) (W : World) (K : Act → World → Prop), I s c W → nx s = some (x, s') → (∀ k ∈ Mo c, k < W.heap.size) → (∀ a' W', Step w.heap.size (Mo c) (Mo c) W W' → I s c W' → Ax x a' W' → K a' W') →
      assign.wpIn (F.inRound l) (n - 1 - 1) P (Exit.then K (fun _ _ _ => False)) { tmps := (ps.zip (encs x)).foldl (fun t (p, v) => t.setIfInBounds p v) a.tmps, defers := [] } W)
    (hbody : ∀ (l : Nat) (s : σ) (x : α) (s' : σ) (c : γ) (a' : Act) (W : World), w.heap.size ≤ l → (∃ r, W.heap[l]? = some (.loop r)) → (∀ k ∈ Mo c, k < W.heap.size) → I s c W → nx s = some (x, s') → Ax x a' W → body.wpIn (F.inRound l) (n - 1 - 1) P (postG w.heap.size Mo I Ix s' c W) a' W)
    (hdone : ∀ (D : Nat) (s : σ) (c : γ) (W : World), w.heap.size ≤ D → nx s = none → I s c W → D ∉ Mo c → W.heap[D]? = some (.deferred (some [])) → Q .normal { a with defers := { target := .collected D, args := #[] } :: a.defers } W)
    (hstop : ∀ (D : Nat) (cd : Code) (c : γ) (W : World), w.heap.size ≤ D → Ix cd c W → D ∉ Mo c → W.heap[D]? = some (.deferred (some [])) → cd.wpIn F n P Q { a with defers := { target := .collected D, args := #[] } :: a.defers } W) :
    (Code.rangeFunc g ps assign body).wpIn F n P Q a w := by
  refine wpIn_rangeFunc ?_
  intro fn hfn
  rw [hro]
  obtain ⟨rec, hrec⟩ : ∃ rec : LoopState → Option Code → Loop, rec = fun st pe => { state := st, pending := pe, fn, tmps := a.tmps, params := ps, assign, body, defers := w.heap.size } := ⟨_, rfl⟩
  obtain ⟨W1, hW1⟩ : ∃ W1, (w.alloc (.deferred (some []))).alloc (.loop (rec .ready none)) = W1 := ⟨_, rfl⟩
  have hs1 : W1.heap.size = w.heap.size + 1 + 1 := by rw [← hW1]; simp
  have hL1 : W1.heap[w.heap.size + 1]? = some (.loop (rec .ready none)) := by
    rw [← hW1]; have := World.alloc_heap_new (w.alloc (.deferred (some []))) (.loop (rec .ready none)); rwa [World.size_alloc] at this
  have hK1 : W1.heap[w.heap.size]? = some (.deferred (some [])) := by
    rw [← hW1]; exact (Below.heap_alloc _ _ _ (by simp)).trans (World.alloc_heap_new w _)
  have hI1 : I s0 c0 W1 := by rw [← hW1]; exact hI _ _ _ _ h0 ((Same.alloc _ _ _ _).trans (Same.alloc _ _ _ _))
  have hb1 : Below w0.heap.size w0 W1 := by
    rw [← hW1]; exact hb0.trans ((((Below.refl _ w).alloc (Nat.le_refl _) _).alloc (by simp) _).mono hb0.size)
  refine ⟨w.heap.size + 1, [{ target := .collected w.heap.size, args := #[] }], W1, { target := .fn (.func gf) lb, args := #[.func (.yield (w.heap.size + 1)) #[] #[]] }, W1, gf,
    #[.func (.yield (w.heap.size + 1)) #[] #[]] ++ lb, W1, ?_, ?_, ?_, ?_, fun _ => h1, ?_⟩
  · rw [← hW1, hrec]; exact run_enterLoop_outer _ _ _ _ _
  · simp only [resolve, hg]
    simp [go_sem]
  · intro f' hf'; simp [Target.leads] at hf'; subst hf'; exact hFg
  · simp [invoke, go_sem, eg]
  · have sub : ∀ {c : γ} {A A' : World}, Same W1.heap.size (Mo c) A A' → Same w.heap.size (Mo c) A A' := fun h => h.mono (fun k hk => hk.imp (fun q => by omega) id)
    refine (hseq (w.heap.size + 1)
      (fun s c W => I s c W ∧ W.heap[w.heap.size + 1]? = some (.loop (rec .ready none)) ∧ W.heap[w.heap.size]? = some (.deferred (some [])) ∧ (∀ k ∈ Mo c, k ≠ w.heap.size ∧ k ≠ w.heap.size + 1 ∧ k < W.heap.size))
      (fun c W => ∃ cd, Ix cd c W ∧ W.heap[w.heap.size + 1]? = some (.loop (rec .done (some cd))) ∧ W.heap[w.heap.size]? = some (.deferred (some [])) ∧ (∀ k ∈ Mo c, k ≠ w.heap.size ∧ k ≠ w.heap.size + 1))
      W1 c0 hb1
      (fun s c A B hs hg' => by
        have lt1 := (Array.getElem?_eq_some_iff.1 hs.2.1).1
        have lt2 := (Array.getElem?_eq_some_iff.1 hs.2.2.1).1
        exact ⟨hI _ _ _ _ hs.1 (sub hg'), (hg'.block _ (.inl (by omega)) lt1).trans hs.2.1, (hg'.block _ (.inl (by omega)) lt2).trans hs.2.2.1, fun k hk => ⟨(hs.2.2.2 k hk).1, (hs.2.2.2 k hk).2.1, Nat.lt_of_lt_of_le (hs.2.2.2 k hk).2.2 hg'.size⟩⟩)
      (fun c A B hs hg' => by
        obtain ⟨cd, hc, hl, hk, hm⟩ := hs
        have lt1 := (Array.getElem?_eq_some_iff.1 hl).1
        have lt2 := (Array.getElem?_eq_some_iff.1 hk).1
        exact ⟨cd, hIx _ _ _ _ hc (sub hg'), (hg'.block _ (.inl (by omega)) lt1).trans hl, (hg'.block _ (.inl (by omega)) lt2).trans hk, hm⟩)
      (fun k hk => by have := hlt k hk; omega)
      (fun s c W hs => hPre s c W hs.1)
      ?_ ⟨hI1, hL1, hK1, fun k hk => by have := hlt k hk; omega⟩).mono ?_
    · rintro s x s' c W ⟨hi, hl, hk, hm⟩ hnx
      have hy := run_yield (P := P) (args := encs x) hl (by rw [hrec]; exact hps x)
      rw [hrec] at hy
      refine ⟨fn, _, assign, body, hy, roundIn_of_wpIn hfn (hassign _ s x s' c W _ hi hnx (fun k hk => (hm k hk).2.2) ?_)⟩
      clear hy
      intro a' Wa hsa hia hax
      have nm1 : w.heap.size ∉ Mo c := fun h => (hm _ h).1 rfl
      have nm2 : w.heap.size + 1 ∉ Mo c := fun h => (hm _ h).2.1 rfl
      have hla := hsa.same _ _ (by omega) nm2 hl
      have hka := hsa.same _ _ (Nat.le_refl _) nm1 hk
      have hlt : w.heap.size + 1 < Wa.heap.size := (Array.getElem?_eq_some_iff.1 hla).1
      refine ⟨_, run_beginRound hla (by rw [hrec]), ?_⟩
      obtain ⟨W2, hW2⟩ : ∃ W2, Wa.putObj (w.heap.size + 1) (.loop { rec .ready none with state := .busy }) = W2 := ⟨_, rfl⟩
      rw [hW2]
      have hl2 : W2.heap[w.heap.size + 1]? = some (.loop { rec .ready none with state := .busy }) := by rw [← hW2]; exact World.putObj_heap_same hlt
      have hk2 : W2.heap[w.heap.size]? = some (.deferred (some [])) := by rw [← hW2]; exact (World.putObj_heap_other (by omega)).trans hka
      have hi2 : I s c W2 := by rw [← hW2]; exact hI _ _ _ _ hia (Same.put _ (by omega) nm2)
      have hx2 : Ax x a' W2 := by rw [← hW2]; exact hAx _ _ _ _ hax (Same.put _ (by omega) (fun h => nomatch h))
      have hz2 : Wa.heap.size = W2.heap.size := by rw [← hW2]; simp
      have hsw : Step W1.heap.size (Mo c) (Mo c) W W2 := ⟨by have := hsa.size; omega, fun k o hB hM hk0 => by
        rw [← hW2]; exact (World.putObj_heap_other (by omega)).trans (hsa.same k o (by omega) hM hk0), fun _ q => .inl q, fun k q => by have := (hm k q).2.2; have := hsa.size; omega⟩
      refine wpIn_mono (hbody _ s x s' c a' W2 (by omega) ⟨_, hl2⟩ (fun k q => by have := (hm k q).2.2; have := hsa.size; omega) hi2 hnx hx2) ?_
      have fin : ∀ (jump : Option Code) (W3 : World) (c' : γ), Step w.heap.size (Mo c) (Mo c') W2 W3 →
          (Instr.endRound (w.heap.size + 1) jump).run P W3 = .ok (.bool jump.isNone) (W3.putObj (w.heap.size + 1) (.loop (rec (if jump.isNone then .ready else .done) jump))) ∧
          W3.heap[w.heap.size + 1]? = some (.loop { rec .ready none with state := .busy }) ∧
          (W3.putObj (w.heap.size + 1) (.loop (rec (if jump.isNone then .ready else .done) jump))).heap[w.heap.size + 1]? = some (.loop (rec (if jump.isNone then .ready else .done) jump)) ∧
          (W3.putObj (w.heap.size + 1) (.loop (rec (if jump.isNone then .ready else .done) jump))).heap[w.heap.size]? = some (.deferred (some [])) ∧
          (∀ k ∈ Mo c', k ≠ w.heap.size ∧ k ≠ w.heap.size + 1 ∧ k < (W3.putObj (w.heap.size + 1) (.loop (rec (if jump.isNone then .ready else .done) jump))).heap.size) ∧
          Step W1.heap.size (Mo c) (Mo c') W (W3.putObj (w.heap.size + 1) (.loop (rec (if jump.isNone then .ready else .done) jump))) ∧
          Same w.heap.size (Mo c') W3 (W3.putObj (w.heap.size + 1) (.loop (rec (if jump.isNone then .ready else .done) jump))) := fun jump W3 c' hk3 => by
        have hl3 := hk3.same _ _ (by omega) nm2 hl2
        have := run_endRound (P := P) jump hl3
        rw [hrec] at this ⊢
        have hm' : ∀ k ∈ Mo c', k ≠ w.heap.size ∧ k ≠ w.heap.size + 1 ∧ k < W3.heap.size := fun k q => by
          have h3 := hk3.lt k q
          rcases hk3.new k q with r | r
          · exact ⟨(hm k r).1, (hm k r).2.1, h3⟩
          · exact ⟨by omega, by omega, h3⟩
        refine ⟨this, by rw [hrec] at hl3; exact hl3, World.putObj_heap_same (Array.getElem?_eq_some_iff.1 hl3).1, (World.putObj_heap_other (by omega)).trans (hk3.same _ _ (Nat.le_refl _) nm1 hk2),
          fun k q => ⟨(hm' k q).1, (hm' k q).2.1, by simpa using (hm' k q).2.2⟩, ?_, Same.put _ (by omega) (fun h => (hm' _ h).2.1 rfl)⟩
        have h4 := hsw.trans (hk3.mono (by omega))
        exact ⟨by have := h4.size; simpa using this, fun k o hB hM hk0 => (World.putObj_heap_other (by omega)).trans (h4.same k o hB hM hk0), h4.new, fun k q => by simpa using h4.lt k q⟩
      rintro e a3 W3 hp
      cases e with
      | normal =>
        obtain ⟨c', hi3, hk3⟩ := hp
        obtain ⟨hr, hl3, hl4, hk4, hm4, hst, hsm⟩ := fin none W3 c' hk3
        exact ⟨_, _, hr, .inl ⟨rfl, c', ⟨hI _ _ _ _ hi3 hsm, hl4, hk4, hm4⟩, hst⟩⟩
      | ret =>
        obtain ⟨c', hi3, hk3⟩ := hp
        obtain ⟨hr, hl3, hl4, hk4, hm4, hst, hsm⟩ := fin (some .ret) W3 c' hk3
        exact ⟨_, _, hr, .inr ⟨rfl, c', ⟨.ret, hIx _ _ _ _ hi3 hsm, hl4, hk4, fun k q => ⟨(hm4 k q).1, (hm4 k q).2.1⟩⟩, hst⟩⟩
      | exit id =>
        obtain ⟨c', hi3, hk3⟩ := hp
        obtain ⟨hr, hl3, hl4, hk4, hm4, hst, hsm⟩ := fin (some (.exit id)) W3 c' hk3
        exact ⟨_, _, hr, .inr ⟨rfl, c', ⟨.exit id, hIx _ _ _ _ hi3 hsm, hl4, hk4, fun k q => ⟨(hm4 k q).1, (hm4 k q).2.1⟩⟩, hst⟩⟩
      | goto t =>
        obtain ⟨c', hi3, hk3⟩ := hp
        obtain ⟨hr, hl3, hl4, hk4, hm4, hst, hsm⟩ := fin (some (.goto t)) W3 c' hk3
        exact ⟨_, _, hr, .inr ⟨rfl, c', ⟨.goto t, hIx _ _ _ _ hi3 hsm, hl4, hk4, fun k q => ⟨(hm4 k q).1, (hm4 k q).2.1⟩⟩, hst⟩⟩
      | panic ch => exact hp.elim
      | outgrown => exact hp.elim
    · rintro e W2 ⟨⟨v, rfl⟩, (⟨s, c, hs, hi, hl, hk, hm⟩ | ⟨c, cd, hi, hl, hk, hm⟩)⟩
      · exact ⟨none, _, by have := run_endLoop (P := P) hl (by rw [hrec]; simp); rw [hrec] at this; exact this, hdone _ s c _ (Nat.le_refl _) hs (hI _ _ _ _ hi (Same.put _ (by omega) (fun h => (hm _ h).2.1 rfl))) (fun h => (hm _ h).1 rfl) ((World.putObj_heap_other (by omega)).trans hk)⟩
      · exact ⟨some cd, _, by have := run_endLoop (P := P) hl (by rw [hrec]; simp); rw [hrec] at this; exact this, hstop _ cd c _ (Nat.le_refl _) (hIx _ _ _ _ hi (Same.put _ (by omega) (fun h => (hm _ h).2 rfl))) (fun h => (hm _ h).1 rfl) ((World.putObj_heap_other (by omega)).trans hk)⟩
end Go.Proofs.YtedcdhngiofpjaaGreatDoor
/- store: a sorted map's above: the iterator's contract. -/
namespace Go.Proofs.YtedcdhngiofpjaaGreatDoor
open Go Go.Proofs Go.RowKit Go.Shelf
set_option maxRecDepth 100000
attribute [local go_sem] Oper.semAt_some
theorem nextI_hi (sb off : Nat) (v : Value) (es : List EnI) (O : List Nat) (hz : es.length ≤ 1000) (hs : Srt ltI es) (t : Int) (w : World)
    (hc : w.cell? ⟨sb, off, none⟩ = some v) (hM : MapI w v es O) :
    Calls Tryz.prog 84 #[.pointer (some ⟨sb, off, none⟩), .int .i64 t] w (NxIPost (hiL ltI es t).head? w) := by
  have h := nextI_map sb off v es O hz t (posL ltI es t) (pos_le _ _) (pos_iff stoI hs t) w hc hM
  suffices e : es[if hereI es (posL ltI es t) t then posL ltI es t + 1 else posL ltI es t]? = (hiL ltI es t).head? by rwa [e] at h
  cases hg : getL es t with
  | some b =>
    obtain ⟨q1, q2, _⟩ := at_pos_some stoI hs hg
    have : hereI es (posL ltI es t) t = true := by unfold hereI; rw [q1]; simp
    rw [this, if_pos rfl, q2]
  | none =>
    obtain ⟨q1, _⟩ := at_pos_none stoI hs hg
    have : hereI es (posL ltI es t) t = false := by
      unfold hereI
      rw [q1]
      split
      · rename_i x hx
        have := hi_lt x (List.mem_of_head? hx)
        simp only [decide_eq_false_iff_not]
        rintro rfl
        rw [stoI.irr] at this; cases this
      · rfl
    rw [this]
    simpa using q1
theorem aboveI_any (m : Option Addr) (k : Int) (w : World) :
    Calls Tryz.prog 45 #[.pointer m, .int .i64 k] w fun e w' => e = .returned (.func (.func 83) #[] #[.pointer (some ⟨w.heap.size, 0, none⟩), .pointer (some ⟨w.heap.size + 1, 0, none⟩)]) ∧ w' = (w.alloc (.cells #[.pointer m] 149)).alloc (.cells #[.int .i64 k] 2) := by
  go_enter Tryz.func45, Tryz.ntmps45
  go_wp2
  go_ret
  exact ⟨rfl, rfl⟩
abbrev StI := Int × List EnI
def nxI : StI → Option (EnI × StI)
  | (_, []) => none
  | (_, x :: r) => some (x, (x.1, r))
def enI (x : EnI) : Array Value := #[.int .i64 x.1, .pointer (some ⟨x.2, 0, none⟩)]
/-- what the iterator needs of memory: the map's variable, the map, what is still to come -/
def PreI (B1 sb off : Nat) (s : StI) (W : World) : Prop :=
  W.cell? ⟨B1, 0, none⟩ = some (.pointer (some ⟨sb, off, none⟩)) ∧ ∃ v es O, W.cell? ⟨sb, off, none⟩ = some v ∧ MapI W v es O ∧ es.length ≤ 1000 ∧ Srt ltI es ∧ hiL ltI es s.1 = s.2
theorem nx_casesI (r : List EnI) : ∃ (kk : Int) (pp : Option Addr) (b : Bool), nxVI r.head? = .tuple #[.agg #[.int .i64 kk, .pointer pp], .bool b] ∧ ((b = true ∧ ∃ vb r', r = (kk, vb) :: r' ∧ pp = some ⟨vb, 0, none⟩) ∨ (b = false ∧ r = [])) := by
  cases r with
  | nil => exact ⟨0, none, false, rfl, .inr ⟨rfl, rfl⟩⟩
  | cons x r' => exact ⟨x.1, some ⟨x.2, 0, none⟩, true, rfl, .inl ⟨rfl, x.2, r', rfl, rfl⟩⟩
/-- ahead of a round: what is still to come, how much -/
def RlI {γ : Type} (Mo : γ → List Nat) (J : StI → γ → World → Prop) (eb : Nat) (v : Value) (wr : World) (N : Nat) : Prop :=
  ∃ (k : Int) (r : List EnI) (c : γ) (kk : Int) (pp : Option Addr) (b : Bool), N = r.length ∧ v = .bool b ∧ J (k, r) c wr ∧ wr.heap[eb]? = some (.cells #[.int .i64 kk, .pointer pp] TEI (0, 0)) ∧ ((b = true ∧ ∃ vb r', r = (kk, vb) :: r' ∧ pp = some ⟨vb, 0, none⟩) ∨ (b = false ∧ r = [])) ∧ eb ∉ Mo c ∧ ∀ m ∈ Mo c, m < wr.heap.size
set_option maxHeartbeats 8000000 in
theorem aboveI_stops {γ : Type} (Mo : γ → List Nat) (B1 B2 sb off : Nat) (k0 : Int) (r0 : List EnI) (w : World) (hk : w.cell? ⟨B2, 0, none⟩ = some (.int .i64 k0)) :
    SeqG Fence.wide 8 Tryz.prog 83 #[.pointer (some ⟨B1, 0, none⟩), .pointer (some ⟨B2, 0, none⟩)] enI Mo nxI (fun s (_ : γ) W => PreI B1 sb off s W) (k0, r0) w := by
  intro L J Jx W c0 hW hJ hJx hlt hPre hY h0
  have hk' : W.cell? ⟨B2, 0, none⟩ = some (.int .i64 k0) := (hW.cell (p := ⟨B2, 0, none⟩) (World.block_lt_of_cell? w _ hk)).trans hk
  obtain ⟨p1, v, es, O, p2, p3, p4, p5, p6⟩ := hPre _ _ _ h0
  have HN := Lib.hid (nextI_hi sb off v es O p4 p5 k0 W p2 p3)
  rw [p6] at HN
  have HJ := Lib.hid hJ
  have HJx := Lib.hid hJx
  have HP := Lib.hid hPre
  have HY := Lib.hid hY
  have H0 := Lib.hid h0
  have HL := Lib.hid hlt
  clear hJ hJx hPre hY h0 hlt p2 p3 p4 p5 p6 hW hk
  refine callsIn_of_wp Tryz.func83 rfl trivial ?_ rfl
  simp only [Tryz.ntmps83, List.size_toArray, List.length_cons, List.length_nil, Nat.reduceAdd, Nat.reduceSub, Array.replicate_succ, Array.replicate_zero, List.push_toArray, List.append_toArray, List.nil_append, List.cons_append]
  gi_wp2_with fail
  refine ⟨trivial, (callsIn_wide.2 HN.out).mono ?_⟩
  rintro e w1 ⟨rfl, hb1⟩
  obtain ⟨kk, pp, b, e1, hcs⟩ := nx_casesI r0
  rw [e1]
  have hw1 : W.heap.size ≤ w1.heap.size := hb1.size
  have HJ0 := Lib.hid (HJ.out _ _ _ _ H0.out ((Same.below hb1).trans (Same.alloc _ _ w1 (.cells #[.int .i64 kk, .pointer pp] TEI))))
  have HB0 := Lib.hid (heap_alloc_new w1 (.cells #[.int .i64 kk, .pointer pp] TEI))
  have HM0 := Lib.hid (show w1.heap.size ∉ Mo c0 ∧ ∀ m ∈ Mo c0, m < (w1.alloc (.cells #[.int .i64 kk, .pointer pp] TEI)).heap.size from ⟨fun h => by have := HL.out _ h; omega, fun m h => by have := HL.out _ h; simp; omega⟩)
  have HCS := Lib.hid hcs
  have HW1 := Lib.hid hw1
  clear hb1 hcs e1 H0 HN HL hw1 hk' p1
  generalize hBz : W.heap.size = Bz at *
  generalize heb : w1.heap.size = eb at *
  gi_wp2_with fail
  obtain ⟨ms, hms⟩ := least14 (RlI Mo J eb)
  have HMS := Lib.hid hms
  have HR0 : Hid (∃ N, RlI Mo J eb (.bool b) (w1.alloc (.cells #[.int .i64 kk, .pointer pp] TEI)) N) := ⟨_, k0, r0, c0, kk, pp, b, rfl, rfl, HJ0.out, HB0.out, HCS.out, HM0.out.1, HM0.out.2⟩
  clear hms HJ0 HB0 HCS HM0 hBz heb
  gi_loopw [5] (fun v wr => ∃ N, RlI Mo J eb v wr N) (fun v wr => ms v wr)
  case atStart => exact HR0.out
  case round =>
    clear HR0
    obtain ⟨hrl, hmin⟩ := HMS.out _ _ hrel
    clear hrel
    obtain ⟨k, r, c, kk, pp, b, hN, rfl, hJr, hbr, hcs, hm1, hm2⟩ := hrl
    rcases hcs with ⟨rfl, vb, r', rfl, rfl⟩ | ⟨rfl, rfl⟩
    · obtain ⟨fn, tmps, assign, body, hy, hR⟩ := HY.out (k, (kk, vb) :: r') (kk, vb) (kk, r') c wr hJr rfl
      have A1 := (At.of_block hbr).f2
      have HbR := Lib.hid hbr
      have HM1 := Lib.hid hm1
      have HM2 := Lib.hid hm2
      have HNN := Lib.hid hN
      unfold enI at hy
      dsimp only at hy
      clear hbr hm1 hm2 hN hmin hJr
      gi_wp2
      refine hR.mono ?_
      clear hR hy A1
      rintro e W3 (⟨rfl, c', hJ3, hst⟩ | ⟨rfl, c', hJ3, hst⟩)
      · have hb3 := hst.same eb _ HW1.out HM1.out HbR.out
        have A3 := (At.of_block hb3).f2
        have hm3 : eb ∉ Mo c' := fun h => by
          rcases hst.new _ h with q | q
          · exact HM1.out q
          · have := (Array.getElem?_eq_some_iff.1 HbR.out).1; omega
        obtain ⟨p1, v, es, O, p2, p3, p4, p5, p6⟩ := HP.out _ _ _ hJ3
        have HN := Lib.hid (nextI_hi sb off v es O p4 p5 kk W3 p2 p3)
        rw [p6] at HN
        obtain ⟨kn, pn, bn, e1, hcn⟩ := nx_casesI r'
        have HJ3 := Lib.hid hJ3
        have HB3 := Lib.hid hb3
        have HM3 := Lib.hid hm3
        have HL3 := Lib.hid hst.lt
        have HCN := Lib.hid hcn
        have HE1 := Lib.hid e1
        clear hJ3 hb3 hm3 hst hcn e1 p2 p3 p4 p5 p6
        gi_wp2_with fail
        refine ⟨trivial, (callsIn_wide.2 HN.out).mono ?_⟩
        rintro e W4 ⟨rfl, hb4⟩
        rw [HE1.out]
        have hb5 : W4.heap[eb]? = some (.cells #[.int .i64 kk, .pointer (some ⟨vb, 0, none⟩)] TEI (0, 0)) := (hb4.block eb (Array.getElem?_eq_some_iff.1 HB3.out).1).trans HB3.out
        have A4 := (At.of_block hb5).f2
        have HJ4 := Lib.hid (HJ.out _ _ _ _ HJ3.out (((Same.below hb4).trans (Same.set (b := eb) (j := 0) (.int .i64 kn) HW1.out HM3.out)).trans (Same.set (b := eb) (j := 1) (.pointer pn) HW1.out HM3.out)))
        have HB5 := Lib.hid (blk_set14 (blk_set14 hb5 0 (.int .i64 kn)) 1 (.pointer pn))
        have HL4 := Lib.hid (show ∀ m ∈ Mo c', m < ((W4.setCell ⟨eb, 0, none⟩ (.int .i64 kn)).setCell ⟨eb, 1, none⟩ (.pointer pn)).heap.size from fun m hm => by
          have := HL3.out m hm
          have := hb4.size
          simp [World.setCell]; omega)
        clear hb4 hb5 HN HJ3 HB3 HL3 A3 p1
        gi_wp2
        have HRN : Hid (RlI Mo J eb (.bool bn) ((W4.setCell ⟨eb, 0, none⟩ (.int .i64 kn)).setCell ⟨eb, 1, none⟩ (.pointer pn)) r'.length) := ⟨kk, r', c', kn, pn, bn, rfl, rfl, HJ4.out, by simpa using HB5.out, HCN.out, HM3.out, HL4.out⟩
        go_roundw
        case rel => exact ⟨_, HRN.out⟩
        case measure =>
          have h1 := (HMS.out _ _ ⟨_, HRN.out⟩).2 _ HRN.out
          have h2 := HNN.out
          simp only [List.length_cons] at h2
          omega
      · have HJ3 := Lib.hid hJ3
        clear hJ3 hst
        gi_wp2
        go_end0
        exact ⟨⟨_, rfl⟩, .inr ⟨c', HJ3.out⟩⟩
    · have HJ3 := Lib.hid hJr
      clear hJr hbr hm1 hm2 hN hmin
      gi_wp2_with fail
      refine ⟨(fun f h => nomatch h), ?_⟩
      gi_wp2
      go_end0
      exact ⟨⟨_, rfl⟩, .inl ⟨(k, []), c, rfl, HJ3.out⟩⟩
end Go.Proofs.YtedcdhngiofpjaaGreatDoor
