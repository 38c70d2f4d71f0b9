/- A net in memory: its nodes' cells; what of it is kept. -/
import Derived.Test.YtcfdpbbpdnpnnaaDoorAll
import Derived.Test.YtcfdpbbpdnpnnaaDoorOr
import Derived.Laws.OwnMore
import Derived.Deep.AppendLies
namespace Go.Proofs.YtcfdpbbpdnpnnaaDoor
open Go Go.Proofs Go.RowKit Go.Shelf
set_option maxRecDepth 100000
def wordsV (m : Nat) : List Value := [.int .u64 (word m 0), .int .u64 (word m 1), .int .u64 (word m 2), .int .u64 (word m 3)]
def nodeV (e : Nat × Nat) : List Value := wordsV e.1 ++ wordsV e.2
def cellsN : Rx.Nt → List Value
  | [] => []
  | e :: t => nodeV e ++ cellsN t
theorem nodeV_length (e : Nat × Nat) : (nodeV e).length = 8 := rfl
theorem cellsN_length (n : Rx.Nt) : (cellsN n).length = n.length * 8 := by
  induction n with
  | nil => rfl
  | cons e t ih => rw [cellsN, List.length_append, ih, nodeV_length, List.length_cons]; omega
theorem cellsN_append (a b : Rx.Nt) : cellsN (a ++ b) = cellsN a ++ cellsN b := by
  induction a with
  | nil => rfl
  | cons e t ih => rw [List.cons_append, cellsN, cellsN, ih, List.append_assoc]
theorem cellsN_get (n : Rx.Nt) (i j : Nat) (hj : j < 8) (e : Nat × Nat) (h : n[i]? = some e) : (cellsN n)[i * 8 + j]? = (nodeV e)[j]? := by
  induction n generalizing i with
  | nil => cases h
  | cons d t ih =>
    cases i with
    | zero =>
      simp at h; subst h
      rw [cellsN, List.getElem?_append_left (by rw [nodeV_length]; omega)]; simp
    | succ i =>
      rw [cellsN, List.getElem?_append_right (by rw [nodeV_length]; omega), nodeV_length, show (i + 1) * 8 + j - 8 = i * 8 + j from by omega]
      exact ih i (by simpa using h)
/-- the cells of a node's next set instead -/
theorem cellsN_join (n : Rx.Nt) (next i : Nat) (e : Nat × Nat) (h : n[i]? = some e) :
    cellsN (Rx.joinS next n i) = ((((cellsN n).set (i * 8 + 4) (.int .u64 (word (e.2 ||| next) 0))).set (i * 8 + 4 + 1) (.int .u64 (word (e.2 ||| next) 1))).set (i * 8 + 4 + 2) (.int .u64 (word (e.2 ||| next) 2))).set (i * 8 + 4 + 3) (.int .u64 (word (e.2 ||| next) 3)) := by
  induction n generalizing i with
  | nil => cases h
  | cons d t ih =>
    cases i with
    | zero =>
      simp at h; subst h
      rfl
    | succ i =>
      have h' : t[i]? = some e := by simpa using h
      have e1 : Rx.joinS next (d :: t) (i + 1) = d :: Rx.joinS next t i := rfl
      rw [e1, cellsN, cellsN, ih i h']
      have sw : ∀ (l : List Value) (k : Nat) (v : Value), (nodeV d ++ l).set ((i + 1) * 8 + 4 + k) v = nodeV d ++ l.set (i * 8 + 4 + k) v := by
        intro l k v
        rw [List.set_append_right _ _ (by rw [nodeV_length]; omega), nodeV_length, show (i + 1) * 8 + 4 + k - 8 = i * 8 + 4 + k from by omega]
      have s0 := sw (cellsN t) 0 (.int .u64 (word (e.2 ||| next) 0))
      rw [Nat.add_zero, Nat.add_zero] at s0
      rw [s0, sw, sw, sw]
structure NetR (base : Nat) (w : World) (v : Value) (n : Rx.Nt) : Prop where
  own : w.ownsRow base 47 8 v n.length (cellsN n)
  tab : Tab w
  nt : v.ownBlock ≠ some 1
  len : n.length ≤ 100
theorem ownsRow_same {w w' : World} {base n : Nat} {e : TypeId} {sz : Nat} {v : Value} {xs : List Value} (h : w.ownsRow base e sz v n xs) (hg : ∀ g, v.ownBlock = some g → w'.heap[g]? = w.heap[g]?) : w'.ownsRow base e sz v n xs := by
  refine ⟨h.1, ?_⟩
  rcases h.2 with hn | ⟨g, cap, cur, rfl, hb, hgg, rest⟩
  · exact .inl hn
  · exact .inr ⟨g, cap, cur, rfl, hb, (hg g rfl).trans hgg, rest⟩
theorem NetR.same {base : Nat} {w w' : World} {v : Value} {n : Rx.Nt} (h : NetR base w v n) (hs : w.heap.size ≤ w'.heap.size) (hg : ∀ g, v.ownBlock = some g → w'.heap[g]? = w.heap[g]?) (h1 : w'.heap[1]? = w.heap[1]?) : NetR base w' v n :=
  ⟨ownsRow_same h.own hg, h.tab.of_block hs h1, h.nt, h.len⟩
theorem NetR.lt {base : Nat} {w : World} {v : Value} {n : Rx.Nt} (h : NetR base w v n) : ∀ g, v.ownBlock = some g → base ≤ g ∧ g < w.heap.size := h.own.lt
theorem NetR.below {base : Nat} {w w' : World} {v : Value} {n : Rx.Nt} (h : NetR base w v n) (hb : Below w.heap.size w w') : NetR base w' v n :=
  h.same hb.size (fun g e => hb.block g (h.lt g e).2) (hb.block _ h.tab.lt)
theorem NetR.alloc {base : Nat} {w : World} {v : Value} {n : Rx.Nt} (h : NetR base w v n) (o : Obj) : NetR base (w.alloc o) v n := h.below ((Below.refl _ _).alloc (Nat.le_refl _) o)
theorem NetR.form {base : Nat} {w : World} {v : Value} {n : Rx.Nt} (h : NetR base w v n) (hn : 0 < n.length) : ∃ g cap, v = .slice (some ⟨g, 0, none⟩) n.length cap ∧ base ≤ g ∧ g < w.heap.size := h.own.form hn
/-- what of a world is kept by whoever writes to the row of v alone -/
theorem grown_trans {w w1 w2 : World} {row : Option Nat} (h : w.grownBy w1 row) (k : w1.grownBy w2 row) : w.grownBy w2 row :=
  ⟨k.os.trans h.os, k.tape.trans h.tape, k.output.trans h.output, Nat.le_trans h.size k.size, fun i hi hr => (k.block i (Nat.lt_of_lt_of_le hi h.size) hr).trans (h.block i hi hr)⟩
theorem below_grown {w w1 : World} {row : Option Nat} (h : Below w.heap.size w w1) : w.grownBy w1 row := ⟨h.os, h.tape, h.output, h.size, fun i hi _ => h.block i hi⟩
theorem grown_at {w w1 : World} {row : Option Nat} {b : Nat} {l : List Value} (h : w.grownBy w1 row) (a : At w b l) (hne : row ≠ some b) : At w1 b l := by
  have hb := h.block b a.lt (fun e => hne e.symm)
  exact ⟨Nat.lt_of_lt_of_le a.lt h.size, fun j v hj => (World.cell?_of_block (a := ⟨b, j, none⟩) hb).trans (a.cell j v hj), fun j v hj => (World.frozen?_of_block (a := ⟨b, j, none⟩) hb).trans (a.free j v hj)⟩
/-- what speaks of blocks below B alone is kept by what writes from B on -/
theorem own_of_below {β : Type} {B : Nat} {I : β → World → Prop} (h : ∀ s W W', I s W → Below B W W' → I s W') (hs : ∀ s W, I s W → B ≤ W.heap.size) : OwnFrom B I :=
  fun s W W' row hI hg hr => h s W W' hI ⟨hg.os, hg.tape, hg.output, hg.size, fun k hk => hg.block k (Nat.lt_of_lt_of_le hk (hs s W hI)) (fun e => by have := (hr k e.symm).1; omega)⟩
theorem _root_.Go.World.ownsRow.cellAt' {w : World} {base n g cap m : Nat} {e : TypeId} {size : Nat} {xs : List Value} (h : w.ownsRow base e size (.slice (some ⟨g, 0, none⟩) n cap) m xs) {j : Nat} (hj : j < m * size) : w.cell? ⟨g, j, none⟩ = xs[j]? := by
  have hx := h.1
  have := h.cells (g := g) rfl j xs[j] (List.getElem?_eq_getElem (by omega))
  rw [Addr.add_lit, Nat.zero_add] at this
  rw [this, List.getElem?_eq_getElem (by omega)]
theorem _root_.Go.World.ownsRow.frozenAt' {w : World} {base n g cap m : Nat} {e : TypeId} {size : Nat} {xs : List Value} (h : w.ownsRow base e size (.slice (some ⟨g, 0, none⟩) n cap) m xs) (j : Nat) : w.frozen? ⟨g, j, none⟩ = false := by
  rcases h.2 with ⟨h', _⟩ | ⟨g', cap', cur, h', _, hg, _⟩
  · cases h'
  · cases h'
    exact frozen_of_row w g j cur e hg
/-- the iterator all at a box that holds the set -/
theorem all_stops (m Bs : Nat) (w : World) (hBs : At w Bs (wordsV m)) (hT : Tab w) :
    SeqStopsK Fence.wide 8 Tryd.prog 52 #[.pointer (some ⟨Bs, 0, none⟩)] (fun x : El m => #[.int .u8 (x.1 : Int)]) KB (fun ys => ys.map Subtype.val = Rx.elems m) (fun pre => pre.map Subtype.val <+: Rx.elems m) (Rx.elems m).length w := fun l J Jx W hW _ _ hY h0 => by
  have hA := hBs.below hW
  exact all1_in l Bs m J Jx hY W (hA.cell 0 _ rfl) (hA.cell 1 _ rfl) (hA.cell 2 _ rfl) (hA.cell 3 _ rfl) (hT.below hW) h0
/-- s.all(): the set is boxed -/
theorem all_in (m : Nat) (w : World) :
    CallsIn Fence.wide 8 Tryd.prog 43 #[setV m] w fun e w' => e = .returned (.func (.func 52) #[] #[.pointer (some ⟨w.heap.size, 0, none⟩)]) ∧ w' = w.alloc (.cells #[.int .u64 (word m 0), .int .u64 (word m 1), .int .u64 (word m 2), .int .u64 (word m 3)] 45) := by
  refine callsIn_of_wp Tryd.func43 rfl trivial ?_ rfl
  unfold setV
  simp only [Tryd.ntmps43, List.size_toArray, List.length_cons, List.length_nil, Nat.reduceAdd, Nat.reduceSub, Array.replicate_succ, Array.replicate_zero, List.push_toArray, List.append_toArray, List.nil_append, List.cons_append]
  gi_wp2
  go_ret
  exact ⟨rfl, rfl⟩
end Go.Proofs.YtcfdpbbpdnpnnaaDoor
