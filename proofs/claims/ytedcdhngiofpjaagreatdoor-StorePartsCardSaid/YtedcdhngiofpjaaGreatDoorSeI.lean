/- store: worlds that turn in some blocks alone; a sorted map's entries in memory. -/
import Derived.Test.YtedcdhngiofpjaaGreatDoorAt
import Derived.Test.YtedcdhngiofpjaaGreatDoorHeldIn
import Derived.Test.YtedcdhngiofpjaaGreatDoorLd
import Derived.Test.YtedcdhngiofpjaaGreatDoorWd
import Derived.IntWalk
namespace Go.Proofs.YtedcdhngiofpjaaGreatDoor
open Go Go.Proofs Go.RowKit
set_option maxRecDepth 100000
/-- from w to w' only the blocks of O may have turned -/
structure Turn (O : List Nat) (w w' : World) : Prop where
  os : w'.os = w.os
  tape : w'.tape = w.tape
  output : w'.output = w.output
  size : w.heap.size ≤ w'.heap.size
  block : ∀ k, k < w.heap.size → k ∉ O → w'.heap[k]? = w.heap[k]?
section
variable {O O' : List Nat} {w w1 w2 w' : World}
theorem Turn.refl (O : List Nat) (w : World) : Turn O w w := ⟨rfl, rfl, rfl, Nat.le_refl _, fun _ _ _ => rfl⟩
theorem Turn.trans (h : Turn O w w1) (k : Turn O' w1 w2) (hO : ∀ b ∈ O', b ∈ O ∨ w.heap.size ≤ b) : Turn O w w2 :=
  ⟨k.os.trans h.os, k.tape.trans h.tape, k.output.trans h.output, Nat.le_trans h.size k.size, fun i hi ho => (k.block i (Nat.lt_of_lt_of_le hi h.size) (fun hm => by
    rcases hO i hm with q | q
    · exact ho q
    · omega)).trans (h.block i hi ho)⟩
theorem Turn.mono (h : Turn O w w') (hs : ∀ b ∈ O, b ∈ O') : Turn O' w w' := ⟨h.os, h.tape, h.output, h.size, fun k hk ho => h.block k hk (fun hm => ho (hs k hm))⟩
theorem Turn.of_below (h : Below w.heap.size w w') (O : List Nat) : Turn O w w' := ⟨h.os, h.tape, h.output, h.size, fun k hk _ => h.block k hk⟩
theorem Turn.then_below (h : Turn O w w1) (hb : Below w1.heap.size w1 w2) : Turn O w w2 := h.trans (Turn.of_below hb []) (fun _ hm => nomatch hm)
theorem Turn.set (w : World) (b j : Nat) (v : Value) : Turn [b] w (w.setCell ⟨b, j, none⟩ v) :=
  ⟨rfl, rfl, rfl, by simp [World.setCell], fun k _ ho => Below.heap_setCell _ _ _ k (fun e => ho (by simp [e]))⟩
theorem Turn.row (w : World) (b : Nat) (c : Array Value) : Turn [b] w (w.setRow b c) :=
  ⟨rfl, rfl, rfl, by rw [setRow_size]; exact Nat.le_refl _, fun k _ ho => setRow_other w b k c (fun e => ho (by simp [e]))⟩
theorem Turn.alloc (h : Turn O w w') (o : Obj) : Turn O w (w'.alloc o) := h.then_below ((Below.refl _ _).alloc (Nat.le_refl _) o)
theorem Turn.drew (h : Turn O w w') : Turn O w w'.drew := ⟨h.os, h.tape, h.output, h.size, h.block⟩
theorem Turn.drewN (h : Turn O w w') (q : Nat) : Turn O w (w'.drewN q) := ⟨h.os, h.tape, h.output, h.size, h.block⟩
theorem Turn.grown {row : Option Nat} (h : w.grownBy w' row) : Turn row.toList w w' :=
  ⟨h.os, h.tape, h.output, h.size, fun k hk ho => h.block k hk (fun e => ho (by rw [← e]; simp))⟩
theorem Turn.below {B : Nat} (h : Turn O w w') (hO : ∀ b ∈ O, B ≤ b) (hB : B ≤ w.heap.size) : Below B w w' :=
  ⟨h.os, h.tape, h.output, h.size, fun k hk => h.block k (by omega) (fun hm => by have := hO k hm; omega)⟩
theorem Turn.nil (h : Turn [] w w') : Below w.heap.size w w' := h.below (fun _ hm => nomatch hm) (Nat.le_refl _)
theorem Turn.at {b : Nat} (h : Turn O w w') (hb : b ∉ O) {o : Obj} (ho : w.heap[b]? = some o) : w'.heap[b]? = some o := (h.block b (Array.getElem?_eq_some_iff.1 ho).1 hb).trans ho
end
/-- what of O' is not of O is new -/
def New (O O' : List Nat) (w : World) : Prop := ∀ b ∈ O', b ∈ O ∨ w.heap.size ≤ b
theorem New.refl (O : List Nat) (w : World) : New O O w := fun _ h => .inl h
theorem New.trans {O O' O'' : List Nat} {w w' : World} (h : New O O' w) (k : New O' O'' w') (hs : w.heap.size ≤ w'.heap.size) : New O O'' w := fun b hb => by
  rcases k b hb with q | q
  · exact h b q
  · exact .inr (by omega)
/-- strict orders of keys -/
structure STO {K : Type} (lt : K → K → Bool) : Prop where
  irr : ∀ a, lt a a = false
  trans : ∀ a b c, lt a b = true → lt b c = true → lt a c = true
  tri : ∀ a b, lt a b = false → lt b a = false → a = b
theorem STO.asym {K : Type} {lt : K → K → Bool} (h : STO lt) {a b : K} (q : lt a b = true) : lt b a = false := by
  cases e : lt b a
  · rfl
  · have := h.trans a b a q e
    rw [h.irr] at this; cases this
def ltI (a b : Int) : Bool := decide (a < b)
theorem stoI : STO ltI := ⟨fun a => by simp [ltI], fun a b c => by simp only [ltI, decide_eq_true_eq]; omega, fun a b => by simp only [ltI, decide_eq_false_iff_not]; omega⟩
def ltS (a b : List UInt8) : Bool := Op.bytesLess a b
theorem bl_irr14 : ∀ x : List UInt8, Op.bytesLess x x = false
  | [] => rfl
  | x :: t => by rw [Op.bytesLess]; simp [bl_irr14 t]
theorem bl_trans14 : ∀ x y z : List UInt8, Op.bytesLess x y = true → Op.bytesLess y z = true → Op.bytesLess x z = true
  | [], [], _ => fun h => by simp [Op.bytesLess] at h
  | [], _ :: _, [] => fun _ h => by simp [Op.bytesLess] at h
  | [], _ :: _, _ :: _ => fun _ _ => rfl
  | _ :: _, [], _ => fun h => by simp [Op.bytesLess] at h
  | _ :: _, _ :: _, [] => fun _ h => by simp [Op.bytesLess] at h
  | a :: x, b :: y, c :: z => by
    have ih := bl_trans14 x y z
    simp only [Op.bytesLess]
    intro h k
    simp only [Bool.or_eq_true, decide_eq_true_eq, Bool.and_eq_true, beq_iff_eq] at h k ⊢
    rcases h with h | ⟨rfl, h⟩ <;> rcases k with k | ⟨rfl, k⟩
    · exact .inl (UInt8.lt_trans h k)
    · exact .inl h
    · exact .inl k
    · exact .inr ⟨rfl, ih h k⟩
theorem stoS : STO ltS := ⟨bl_irr14, bl_trans14, fun a b h k => by
  have := bl_tot a b
  unfold ltS at h k
  rw [h, k] at this
  simpa using this⟩
theorem ordI_lt (a b : Int) : decide (ordI a b < 0) = ltI a b := by
  unfold ordI ltI
  split
  · simp [*]
  · split <;> simp [*]
theorem cmpS_lt (a b : List UInt8) : decide (cmpR a b < 0) = ltS a b := by
  unfold cmpR ltS
  cases h : Op.bytesLess a b
  · cases h2 : (a == b) <;> simp
  · simp
theorem ordI_eq (a b : Int) : (ordI a b == 0) = decide (a = b) := by
  unfold ordI
  by_cases h : a < b
  · have : ¬ a = b := by omega
    simp [h, this]
  · by_cases k : b < a
    · have : ¬ a = b := by omega
      simp [h, k, this]
    · have : a = b := by omega
      simp [this]
theorem cmpS_eq (a b : List UInt8) : (cmpR a b == 0) = decide (a = b) := by
  unfold cmpR
  by_cases h : a = b
  · subst h; simp [bl_irr14]
  · cases hb : Op.bytesLess a b <;> simp [h]
abbrev EnI := Int × Nat
abbrev EnS := List UInt8 × Nat
theorem append_types14 {P : Program} (t u ty e e' : TypeId) (args : Array Value) (w : World) (ht : P.underlying t = some (.slice e)) (hu : P.underlying u = some (.slice e')) :
    (Builtin.append_ #[t, u] ty args).run P w = (Builtin.append_ #[t, t] ty args).run P w := by
  unfold Builtin.append_
  cases h0 : args[0]? with
  | none => simp [h0]
  | some s =>
    cases h1 : args[1]? with
    | none => simp [h0, h1]
    | some x => cases s <;> simp [h0, h1, run_underlying ht, run_underlying hu]
theorem run_copy_row2 {P : Program} (w : World) (dT sT ty elem : TypeId) (g o dLen dCap : Nat) (a : Addr) (sLen sCap n : Nat) (cur : Array Value) (t : TypeId) (cs : List Value)
    (hu : P.underlying dT = some (.slice elem)) (hs : (P.info? elem).map (·.size) = some 2)
    (hg : w.heap[g]? = some (.cells cur t (0, 0))) (hn : n = Nat.min sLen dLen) (hcl : cs.length = n * 2)
    (hsrc : ∀ j v, cs[j]? = some v → w.cell? (a.add j) = some v) (hfit : o + cs.length ≤ cur.size) (h1 : ∀ v ∈ cs, v.oneCell' = true) :
    (Builtin.copy_ #[dT, sT] ty #[.slice (some ⟨g, o, none⟩) dLen dCap, .slice (some a) sLen sCap]).run P w =
      .ok (goInt n) (w.setRow g (cur.toList.take o ++ cs ++ cur.toList.drop (o + cs.length)).toArray) := by
  have hl := run_loadCells_list (P := P) w a cs hsrc
  have hst := run_storeCells_at P g o t cs 0 cur w hg (by simpa using hfit) h1
  rw [hcl] at hl
  cases hq : P.info? elem with
  | none => simp [hq] at hs
  | some i =>
    have hi : i.size = 2 := by simpa [hq] using hs
    simp [Builtin.copy_, run_underlying hu, Builtin.lenOf, Builtin.firstCells, sizeOf, typeInfo, hq, hi, ← hn, hl, hst]
theorem blk_set14 {w : World} {b : Nat} {cs : Array Value} {T : TypeId} {fz : Nat × Nat} (h : w.heap[b]? = some (.cells cs T fz)) (j : Nat) (x : Value) : (w.setCell ⟨b, j, none⟩ x).heap[b]? = some (.cells (cs.setIfInBounds j x) T fz) := by
  simp only [World.setCell, Array.getElem?_modify, h]
  simp
theorem set_same14 {cs : Array Value} {j : Nat} {v : Value} (h : cs[j]? = some v) : cs.setIfInBounds j v = cs := by
  apply Array.ext_getElem?
  intro i
  rw [Array.getElem?_setIfInBounds]
  split
  · rename_i e
    subst e
    rw [h, if_pos (Array.getElem?_eq_some_iff.1 h).1]
  · rfl
theorem splice_cons (l : List Value) (o : Nat) (v : Value) (vs : List Value) (ho : o < l.length) :
    (l.set o v).take (o + 1) ++ vs ++ (l.set o v).drop (o + 1 + vs.length) = l.take o ++ (v :: vs) ++ l.drop (o + (v :: vs).length) := by
  have e1 : (l.set o v).take (o + 1) = l.take o ++ [v] := by
    rw [List.take_succ_eq_append_getElem (by simpa using ho), List.take_set_of_le (Nat.le_refl _)]
    simp
  have e2 : (l.set o v).drop (o + 1 + vs.length) = l.drop (o + (v :: vs).length) := by
    rw [List.drop_set_of_lt (by omega)]
    congr 1
    simp only [List.length_cons]; omega
  rw [e1, e2]
  simp
theorem setCells_splice (g : Nat) {e : TypeId} : ∀ (vs : List Value) (o : Nat) (w : World) (cur : Array Value), w.heap[g]? = some (.cells cur e (0, 0)) → o + vs.length ≤ cur.size →
    (w.setCells g o vs).heap[g]? = some (.cells (cur.toList.take o ++ vs ++ cur.toList.drop (o + vs.length)).toArray e (0, 0))
  | [], o, w, cur, h, _ => by
    show w.heap[g]? = _
    rw [h]; simp
  | v :: vs, o, w, cur, h, hl => by
    simp only [List.length_cons] at hl
    have := setCells_splice g vs (o + 1) (w.setCell ⟨g, o, none⟩ v) _ (blk_set14 h o v) (by rw [Array.size_setIfInBounds]; omega)
    rw [World.setCells, this]
    congr 3
    rw [Array.toList_setIfInBounds]
    exact splice_cons _ _ _ _ (by simp; omega)
theorem setCells_turn (g : Nat) : ∀ (vs : List Value) (o : Nat) (w : World), Turn [g] w (w.setCells g o vs)
  | [], _, w => Turn.refl _ w
  | v :: vs, o, w => (Turn.set w g o v).trans (setCells_turn g vs (o + 1) _) (fun _ h => .inl h)
theorem take_mid14 (l z d : List Value) (k : Nat) (hk : k ≤ l.length) : (l.take k ++ z ++ d).toArray.toList.take k = l.take k := by
  rw [List.append_assoc]
  show List.take k (l.take k ++ (z ++ d)) = _
  rw [List.take_append_of_le_length (by rw [List.length_take]; omega), List.take_take, Nat.min_self]
/-- clear of one element of more than one cell -/
theorem run_clear_one {P : Program} (w : World) (t e ty : TypeId) (z : Value) (ht : P.underlying t = some (.slice e)) (hv : ∀ w, (zeroValue e).run P w = .ok z w) (h1 : ∀ v ∈ z.cells.toList, v.oneCell' = true) (b o c : Nat)
    (hc : ∀ j, j < z.cells.size → (w.cell? ⟨b, o + j, none⟩).isSome = true) (hf : ∀ j, j < z.cells.size → w.frozen? ⟨b, o + j, none⟩ = false) :
    (Builtin.clear_ #[t] ty #[.slice (some ⟨b, o, none⟩) 1 c]).run P w = .ok (.tuple #[]) (w.setCells b o z.cells.toList) := by
  have hzc : (Builtin.zeroCells z.cells 1).toList = z.cells.toList := by
    apply List.ext_getElem
    · simp [size_zeroCells]
    · intro i h1 h2
      simp [Builtin.zeroCells] at h1 ⊢
      have q : i < z.cells.size := by simpa using h2
      rw [Nat.mod_eq_of_lt q]
      exact getElem!_pos z.cells i q
  have hst := run_storeCells_cells (P := P) b o z.cells.toList 0 w (by simpa using hc) (by simpa using hf) h1
  simp only [Nat.add_zero] at hst
  simp [Builtin.clear_, run_underlying ht, hv, hzc, hst]
section
open Go.Shelf
theorem nan_no (s : ByteArray) (w : World) : Calls Tryz.prog 138 #[.string s] w fun e w' => e = .returned (.bool false) ∧ w = w' := by
  go_enter Tryz.func138, Tryz.ntmps138
  go_wp2
  go_ret
  exact ⟨rfl, rfl⟩
theorem cmp_any (a b : List UInt8) (w : World) : Calls Tryz.prog 105 #[.string ⟨a.toArray⟩, .string ⟨b.toArray⟩] w fun e w' => e = .returned (.int .i64 (cmpR a b)) ∧ w = w' := by
  have N := Lib.hid (fun s W => nan_no s W)
  have ea : (⟨a.toArray⟩ : ByteArray).toList = a := by rw [ByteArray.toList_eq]
  have eb : (⟨b.toArray⟩ : ByteArray).toList = b := by rw [ByteArray.toList_eq]
  have R : Hid (cmpR a b = if Op.bytesLess a b = true then -1 else if (a == b) = true then 0 else 1) := rfl
  cases h1 : Op.bytesLess a b
  · cases h2 : (a == b)
    · go_enter Tryz.func105, Tryz.ntmps105
      go_wp2_with fail
      refine (N.out _ _).mono ?_
      rintro e w1 ⟨rfl, rfl⟩
      go_wp2_with fail
      refine (N.out _ _).mono ?_
      rintro e w1 ⟨rfl, rfl⟩
      go_wp2
      go_ret
      exact ⟨by rw [R.out, if_neg (by rw [h1]; simp), if_neg (by rw [h2]; simp)]; rfl, rfl⟩
    · go_enter Tryz.func105, Tryz.ntmps105
      go_wp2_with fail
      refine (N.out _ _).mono ?_
      rintro e w1 ⟨rfl, rfl⟩
      go_wp2_with fail
      refine (N.out _ _).mono ?_
      rintro e w1 ⟨rfl, rfl⟩
      go_wp2
      go_ret
      exact ⟨by rw [R.out, if_neg (by rw [h1]; simp), if_pos h2]; rfl, rfl⟩
  · go_enter Tryz.func105, Tryz.ntmps105
    go_wp2_with fail
    refine (N.out _ _).mono ?_
    rintro e w1 ⟨rfl, rfl⟩
    go_wp2_with fail
    refine (N.out _ _).mono ?_
    rintro e w1 ⟨rfl, rfl⟩
    go_wp2
    go_ret
    exact ⟨by rw [R.out, if_pos h1]; rfl, rfl⟩
end
end Go.Proofs.YtedcdhngiofpjaaGreatDoor
/- store: a row of entries in memory; place. -/
namespace Go.Proofs.YtedcdhngiofpjaaGreatDoor
open Go Go.Proofs Go.RowKit Go.Shelf
set_option maxRecDepth 100000
abbrev TEI : TypeId := 152
abbrev TLI : TypeId := 153
abbrev TRI : TypeId := 88
def entCI (zs : List EnI) : List Value := zs.flatMap fun x => [.int .i64 x.1, .pointer (some ⟨x.2, 0, none⟩)]
theorem entCI_cons (zs : List EnI) (x : EnI) : entCI (x :: zs) = .int .i64 x.1 :: .pointer (some ⟨x.2, 0, none⟩) :: entCI zs := by unfold entCI; simp
theorem entCI_app (a b : List EnI) : entCI (a ++ b) = entCI a ++ entCI b := by unfold entCI; simp
theorem entCI_snoc (zs : List EnI) (x : EnI) : entCI (zs ++ [x]) = entCI zs ++ [.int .i64 x.1, .pointer (some ⟨x.2, 0, none⟩)] := by unfold entCI; simp
theorem entCI_at (zs : List EnI) : ∀ j x, zs[j]? = some x → (entCI zs)[j * 2]? = some (.int .i64 x.1) ∧ (entCI zs)[j * 2 + 1]? = some (.pointer (some ⟨x.2, 0, none⟩)) := by
  induction zs with
  | nil => intro j x h; simp at h
  | cons y t ih =>
    intro j x h
    rw [entCI_cons]
    cases j with
    | zero => simp at h; subst h; exact ⟨rfl, rfl⟩
    | succ j =>
      rw [List.getElem?_cons_succ] at h
      have := ih j x h
      rw [show (j + 1) * 2 = j * 2 + 1 + 1 by omega]
      simpa using this
theorem entCI_len (zs : List EnI) : (entCI zs).length = zs.length * 2 := by
  induction zs with
  | nil => rfl
  | cons y t ih => rw [entCI_cons]; simp only [List.length_cons, ih]; omega
theorem entCI_one (zs : List EnI) : ∀ v ∈ entCI zs, v.oneCell' = true := by
  intro v hv
  unfold entCI at hv
  obtain ⟨x, _, h⟩ := List.mem_flatMap.1 hv
  simp at h
  rcases h with rfl | rfl <;> rfl
theorem entCI_take (zs : List EnI) (p : Nat) : entCI (zs.take p) = (entCI zs).take (p * 2) := by
  induction zs generalizing p with
  | nil => simp [entCI]
  | cons x t ih =>
    cases p with
    | zero => simp [entCI]
    | succ p => rw [List.take_succ_cons, entCI_cons, entCI_cons, show (p + 1) * 2 = p * 2 + 1 + 1 by omega, List.take_succ_cons, List.take_succ_cons, ih]
theorem entCI_drop (zs : List EnI) (p : Nat) : entCI (zs.drop p) = (entCI zs).drop (p * 2) := by
  induction zs generalizing p with
  | nil => simp [entCI]
  | cons x t ih =>
    cases p with
    | zero => simp
    | succ p => rw [List.drop_succ_cons, entCI_cons, show (p + 1) * 2 = p * 2 + 1 + 1 by omega, List.drop_succ_cons, List.drop_succ_cons, ih]
theorem info_enI : (Tryz.prog.info? TEI).map (fun i => (i.zero, i.size, i.bytes)) = some (some (.agg #[.int .i64 0, .pointer none]), 2, 16) := by kernel_rfl
theorem size2I : (Tryz.prog.info? TEI).map (·.size) = some 2 := by kernel_rfl
/-- a row of entries that lies from a block's head on -/
def RwI (w : World) (E cap : Nat) (zs : List EnI) : Prop :=
  ∃ cur, w.heap[E]? = some (.cells cur TEI (0, 0)) ∧ zs.length ≤ cap ∧ cap ≤ maxLen ∧ cur.size = cap * 2 ∧ cur.toList.take (zs.length * 2) = entCI zs
theorem RwI.own {w : World} {E cap : Nat} {zs : List EnI} (h : RwI w E cap zs) : w.ownsRow 0 TEI 2 (.slice (some ⟨E, 0, none⟩) zs.length cap) zs.length (entCI zs) := by
  obtain ⟨cur, h1, h2, h3, h4, h5⟩ := h
  exact ⟨entCI_len zs, .inr ⟨E, cap, cur, rfl, Nat.zero_le _, h1, h2, h3, h4, h5⟩⟩
theorem RwI.lt {w : World} {E cap : Nat} {zs : List EnI} (h : RwI w E cap zs) : E < w.heap.size := by
  obtain ⟨cur, h1, _⟩ := h
  exact (Array.getElem?_eq_some_iff.1 h1).1
theorem RwI.keep {w w' : World} {E cap : Nat} {zs : List EnI} (h : RwI w E cap zs) (e : w'.heap[E]? = w.heap[E]?) : RwI w' E cap zs := by
  obtain ⟨cur, h1, h2⟩ := h
  exact ⟨cur, e.trans h1, h2⟩
theorem RwI.below {w w' : World} {E cap : Nat} {zs : List EnI} (h : RwI w E cap zs) (hb : Below w.heap.size w w') : RwI w' E cap zs := h.keep (hb.block E h.lt)
theorem RwI.cell {w : World} {E cap : Nat} {zs : List EnI} (h : RwI w E cap zs) {k : Nat} {x : EnI} (hx : zs[k]? = some x) :
    w.cell? ⟨E, k * 2, none⟩ = some (.int .i64 x.1) ∧ w.cell? ⟨E, k * 2 + 1, none⟩ = some (.pointer (some ⟨x.2, 0, none⟩)) := by
  obtain ⟨cur, h1, h2, h3, h4, h5⟩ := h
  have hk : k < zs.length := (List.getElem?_eq_some_iff.1 hx).1
  obtain ⟨c0, c1⟩ := entCI_at zs k x hx
  rw [← h5, List.getElem?_take] at c0 c1
  rw [if_pos (by omega)] at c0 c1
  exact ⟨(cell_of_row w E _ _ _ _ h1).trans (by simpa using c0), (cell_of_row w E _ _ _ _ h1).trans (by simpa using c1)⟩
theorem place2I_any (k : Int) (v : Value) (t : Int) (w : World) : Calls Tryz.prog 117 #[.agg #[.int .i64 k, v], .int .i64 t] w fun e w' => e = .returned (.int .i64 (ordI k t)) ∧ Below w.heap.size w w' := by
  have C := Lib.hid (fun W => cmp64_any k t W)
  go_enter Tryz.func117, Tryz.ntmps117
  go_wp2_with fail
  refine (C.out _).mono ?_
  rintro e w1 ⟨rfl, rfl⟩
  go_wp2
  go_ret
  exact ⟨rfl, by go_grown⟩
theorem place1I_any (E n cap : Nat) (zs : List EnI) (x : EnI) (t : Int) (w : World) (h : RwI w E cap zs) (hn : zs.length = n + 1) (hl : n < 1000) (hx : zs[n]? = some x) :
    Calls Tryz.prog 115 #[.slice (some ⟨E, 0, none⟩) (n + 1) cap, .int .i64 t] w fun e w' => e = .returned (.int .i64 (ordI x.1 t)) ∧ Below w.heap.size w w' := by
  have C := Lib.hid (fun W => cmp64_any x.1 t W)
  obtain ⟨c0, c1⟩ := h.cell hx
  have q1 : IntKind.i64.wrap (((n + 1 : Nat) : Int) - 1) = (n : Int) := by rw [IntKind.wrap_i64]; omega
  have q1' : IntKind.i64.wrap ((n : Int) + 1 - 1) = (n : Int) := by rw [IntKind.wrap_i64]; omega
  have q2 : (0 : Int) ≤ (n : Int) := by omega
  have q3 : (n : Int) < ((n + 1 : Nat) : Int) := by omega
  have q4 : (n : Int) < (n : Int) + 1 := by omega
  clear h hx hn
  go_enter Tryz.func115, Tryz.ntmps115
  go_wp2_with fail
  refine (C.out _).mono ?_
  rintro e w1 ⟨rfl, rfl⟩
  go_wp2
  go_ret
  exact ⟨rfl, by go_grown⟩
/-- is that key there -/
def hereI (zs : List EnI) (p : Nat) (t : Int) : Bool := match zs[p]? with | some x => decide (x.1 = t) | none => false
def BsIPost (zs : List EnI) (p : Nat) (t : Int) (w : World) (e : Ending) (w' : World) : Prop := e = .returned (.tuple #[.int .i64 (p : Int), .bool (hereI zs p t)]) ∧ Below w.heap.size w w'
set_option maxHeartbeats 4000000 in
theorem bsinI_any (E cap : Nat) (zs : List EnI) (hreach : zs.length ≤ 1000) (t : Int) (p : Nat) (hp : p ≤ zs.length) (hP : ∀ k x, zs[k]? = some x → (ltI x.1 t = true ↔ k < p)) (w : World) (hI : RwI w E cap zs) :
    Calls Tryz.prog 116 #[.slice (some ⟨E, 0, none⟩) zs.length cap, .int .i64 t, .func (.func 117) #[] #[]] w (BsIPost zs p t w) := by
  have HP := Lib.hid hP
  have HI := Lib.hid hI
  have HH0 := Lib.hid (show ∀ e w', e = Ending.returned (.tuple #[.int .i64 (p : Int), .bool (hereI zs p t)]) ∧ Below w.heap.size w w' → BsIPost zs p t w e w' from fun _ _ h => h)
  clear hP hI
  go_enter Tryz.func116, Tryz.ntmps116
  go_wp2
  go_loopw [9, 10] (fun i9 j10 wr => ∃ i j : Nat, i9 = .int .i64 (i : Int) ∧ j10 = .int .i64 (j : Int) ∧ i ≤ p ∧ p ≤ j ∧ j ≤ zs.length ∧ Below w.heap.size w wr) (fun i9 j10 _ => (intOf j10).toNat - (intOf i9).toNat)
  case atStart => exact ⟨0, zs.length, rfl, rfl, Nat.zero_le _, hp, Nat.le_refl _, Below.refl _ _⟩
  case round =>
    obtain ⟨i, j, rfl, rfl, h1, h2, h3, hB⟩ := hrel
    by_cases hlt : i < j
    · have hlt' : (i : Int) < (j : Int) := by omega
      obtain ⟨h, hh⟩ : ∃ h : Nat, h = (i + j) / 2 := ⟨_, rfl⟩
      have hhn : h < zs.length := by omega
      obtain ⟨x, hx⟩ : ∃ x, zs[h]? = some x := ⟨_, List.getElem?_eq_getElem hhn⟩
      have hPh := HP.out h x hx
      obtain ⟨c0, c1⟩ := (HI.out.below hB).cell hx
      obtain ⟨xk, xb⟩ := x
      dsimp only at hPh c0 c1
      have W1 := Lib.hid (place2I_any xk (.pointer (some ⟨xb, 0, none⟩)) t wr)
      have q1 : (0 : Int) ≤ ((i : Int) + (j : Int)) / 2 := by omega
      have q2 : ((i : Int) + (j : Int)) / 2 < (zs.length : Int) := by omega
      have q3 : (((i : Int) + (j : Int)) / 2).toNat = h := by omega
      have Q4 := Lib.hid (show ((i : Int) + (j : Int)) / 2 = (h : Int) by omega)
      have q5 : IntKind.i64.wrap ((h : Int) + 1) = (h : Int) + 1 := by rw [IntKind.wrap_i64]; omega
      have hlt2 := ordI_lt xk t
      have HH := Lib.hid hh
      have HPH := Lib.hid hPh
      clear hx hh hPh
      go_wp2_with fail
      refine (W1.out).mono ?_
      rintro e w1 ⟨rfl, hb1⟩
      have hB1 := hB.trans (hb1.mono hB.size)
      cases hbl : ltI xk t
      · rw [hbl] at hlt2
        go_wp2
        rw [Q4.out]
        have hnp : ¬ h < p := fun hc => by have := HPH.out.2 hc; rw [hbl] at this; cases this
        have := HH.out
        exact ⟨⟨i, h, rfl, rfl, h1, by omega, by omega, hB1⟩, by simp only [intOf]; omega⟩
      · rw [hbl] at hlt2
        go_wp2
        rw [Q4.out]
        have hnp : h < p := HPH.out.1 hbl
        have := HH.out
        exact ⟨⟨h + 1, j, by go_num, rfl, by omega, h2, h3, hB1⟩, by simp only [intOf]; omega⟩
    · obtain rfl : i = p := by omega
      obtain rfl : j = i := by omega
      have hlt' : ¬ (j : Int) < (j : Int) := by omega
      by_cases hn : j < zs.length
      · obtain ⟨x, hx⟩ : ∃ x, zs[j]? = some x := ⟨_, List.getElem?_eq_getElem hn⟩
        obtain ⟨c0, c1⟩ := (HI.out.below hB).cell hx
        obtain ⟨xk, xb⟩ := x
        dsimp only at c0 c1
        have W1 := Lib.hid (place2I_any xk (.pointer (some ⟨xb, 0, none⟩)) t wr)
        have HQ := Lib.hid (show hereI zs j t = decide (xk = t) by unfold hereI; rw [hx])
        have HC := Lib.hid (ordI_eq xk t)
        have q1 : (0 : Int) ≤ (j : Int) := by omega
        have q2 : (j : Int) < (zs.length : Int) := by omega
        clear hx hlt
        go_wp2_with fail
        refine (W1.out).mono ?_
        rintro e w1 ⟨rfl, hb1⟩
        have hB1 := hB.trans (hb1.mono hB.size)
        have hcq := HC.out
        by_cases hq : xk = t
        · have hz : (ordI xk t == 0) = true := by rw [hcq]; simpa using hq
          have hz2 : ordI xk t = 0 := by simpa using hz
          go_wp2
          go_ret2
          exact HH0.out _ _ ⟨by rw [HQ.out]; subst hq; simp [hz2], hB1⟩
        · have hz : (ordI xk t == 0) = false := by rw [hcq]; simpa using hq
          have hz2 : ¬ ordI xk t = 0 := by simpa using hz
          go_wp2
          go_ret2
          exact HH0.out _ _ ⟨by rw [HQ.out]; simp [hq, hz2], hB1⟩
      · have q2 : ¬ (j : Int) < (zs.length : Int) := by omega
        have HQ := Lib.hid (show hereI zs j t = false by unfold hereI; rw [List.getElem?_eq_none (by omega)])
        clear hlt
        go_wp2
        go_ret2
        exact HH0.out _ _ ⟨by (rw [HQ.out]; first | done | rfl), hB⟩
end Go.Proofs.YtedcdhngiofpjaaGreatDoor
