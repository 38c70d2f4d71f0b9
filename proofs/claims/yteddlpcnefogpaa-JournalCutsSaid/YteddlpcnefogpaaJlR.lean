/- Ahead of the laws with loops: rows apart; records that are few. -/
import Derived.Test.YteddlpcnefogpaaJlO
import Derived.Deep.RegionLaw
namespace Go.Proofs.Yteddlpcnefogpaa
open Go Go.Proofs Go.RowKit Go.Shelf
set_option maxRecDepth 100000
theorem row_apart {w w' : World} {B B' s s' n m : Nat} {T T' : TypeId} {v u : Value} {X Y : List Value} (h : w.ownsRow B T s v n X) (k : w.ownsRow B' T' s' u m Y) (g : w.grownBy w' u.ownBlock) (hT : T ≠ T') : w'.ownsRow B T s v n X :=
  ⟨h.1, h.2.imp id (fun ⟨b, cap, cur, q1, q2, q3, q4⟩ => ⟨b, cap, cur, q1, q2, (g.block b (Array.getElem?_eq_some_iff.1 q3).1 (fun e => by
    rcases k.2 with ⟨rfl, _⟩ | ⟨b', cap', cur', rfl, _, p3, _⟩
    · simp [Value.ownBlock] at e
    · obtain rfl : b' = b := by simpa [Value.ownBlock, eq_comm] using e
      rw [q3] at p3
      injection p3 with p
      injection p with _ p2 _
      exact hT p2)).trans q3, q4⟩)⟩
theorem step_append_own {P : Program} {ops : Array Oper} {o : Oper} {a : Act} {w : World} {K : Act → World → Prop} {Q : Exit → Act → World → Prop} {E : Prop}
    (hg : o.guard = none) (s x : Operand) (t : TypeId) (ho : o.op = .call { callee := .builtin .append, args := #[s, x], argTypes := #[t, t] })
    (base : Nat) (e : TypeId) (i : TypeInfo) (z : Value) (size bytes : Nat) (ht : P.underlying t = some (.slice e)) (hi : P.info? e = some i) (hz : i.zero = some z)
    (hsize : i.size = size) (hby : i.bytes = bytes) (hzs : z.cells.size = size) (hsz : 0 < size)
    (v : Value) (n : Nat) (xs : List Value) (hs : a.eval s = v) (hown : w.ownsRow base e size v n xs)
    (ad : Addr) (m c : Nat) (news : List Value) (hx : a.eval x = .slice (some ad) m c) (hl : news.length = m * size) (hnews : ∀ j u, news[j]? = some u → w.cell? (ad.add j) = some u) (h1 : ∀ u ∈ news, u.oneCell' = true)
    (h63 : n + m ≤ maxLen) (hbytes : (n + m) * bytes ≤ 140737488355328) (hbase : base ≤ w.heap.size)
    (h : ∀ v' w', w'.ownsRow base e size v' (n + m) (xs ++ news) → w.grownBy w' v.ownBlock → K (a.put o.dst v') w') :
    if Region.wanted o (yielded ops a.tmps) = true then Oper.wp P o a w K Q else E := by
  have hw : Region.wanted o (yielded ops a.tmps) = true := by simp [Region.wanted, hg]
  rw [if_pos hw]
  exact wp_append_own w s x t ho base e i z size bytes ht hi hz hsize hby hzs hsz v n xs hs hown ad m c news hx hl hnews h1 h63 hbytes hbase (fun v' w' a b _ => h v' w' a b)
theorem bysC_take {W : World} {a : Option Addr} {n c : Nat} {l : List UInt8} (h : BysC W a n c l) {k : Nat} (hk : k ≤ l.length) : Bys W (.slice a k c) (l.take k) := by
  have hn := h.bys.len
  rcases h.bys with ⟨⟨_, _, e⟩, rfl⟩ | ⟨b, off, cap, e, hb, hc⟩
  · obtain rfl : k = 0 := by simpa using hk
    exact .inl ⟨⟨_, _, rfl⟩, rfl⟩
  · injection e with e1 e2 e3
    subst e1 e3
    refine .inr ⟨b, off, c, by rw [List.length_take, Nat.min_eq_left hk], hb, fun j x hj => ?_⟩
    rw [List.getElem?_take] at hj
    split at hj
    · exact hc j x hj
    · cases hj
/-- a record as the laws want it -/
def Fit (r : Rec) : Prop := r.1 ≠ 0 ∧ r.2.length ≤ 100
theorem Fit.ok {r : Rec} (h : Fit r) : OkR r := ⟨h.1, by have := h.2; omega⟩
theorem fit_end {rs : List Rec} (h : ∀ r ∈ rs, Fit r) : endR rs ≤ 104 * rs.length := by
  induction rs with
  | nil => simp [endR]
  | cons r rs ih =>
    have h1 := ih (fun q hq => h q (List.mem_cons_of_mem _ hq))
    have h2 := (h r List.mem_cons_self).2
    simp only [endR, List.length_cons]
    omega
theorem fit_snoc {rs : List Rec} {k : Nat} {r : Rec} (h : ∀ q ∈ rs.take k, Fit q) (hk : rs[k]? = some r) (hr : Fit r) : ∀ q ∈ rs.take (k + 1), Fit q := by
  obtain ⟨hn, he⟩ := List.getElem?_eq_some_iff.1 hk
  rw [List.take_succ_eq_append_getElem hn, he]
  intro q hq
  rcases List.mem_append.1 hq with h1 | h1
  · exact h q h1
  · obtain rfl := List.mem_singleton.1 h1
    exact hr
theorem kind_eq (x : UInt8) : ((x.toNat : Int) == 0) = decide (x = 0) := by
  rw [Bool.eq_iff_iff]
  simp only [beq_iff_eq, decide_eq_true_eq, ← UInt8.toNat_inj]
  exact Int.natCast_eq_zero
theorem info_int : (Try.prog.info? 3).map (fun i => (i.zero, i.size, i.bytes)) = some (some (.int .i64 0), 1, 8) := by kernel_rfl
/-- the cells of the ends -/
def endC (rs : List Rec) (k : Nat) : List Value := (List.range k).map fun j => .int .i64 (endR (rs.take (j + 1)) : Int)
theorem endC_succ (rs : List Rec) (k : Nat) : endC rs (k + 1) = endC rs k ++ [.int .i64 (endR (rs.take (k + 1)) : Int)] := by unfold endC; rw [List.range_succ, List.map_append]; rfl
theorem endC_len (rs : List Rec) (k : Nat) : (endC rs k).length = k := by unfold endC; simp
theorem endC_at {W : World} {B : Nat} {a : Option Addr} {c : Nat} {rs : List Rec} (h : W.ownsRow B 3 1 (.slice a rs.length c) rs.length (endC rs rs.length)) {j : Nat} (hj : j < rs.length) : ∃ g, a = some ⟨g, 0, none⟩ ∧ W.cell? ⟨g, j, none⟩ = some (.int .i64 (endR (rs.take (j + 1)) : Int)) := by
  obtain ⟨g, cg, e⟩ := own_some h (by omega)
  injection e with e1 _ e3
  subst e1 e3
  refine ⟨g, rfl, ?_⟩
  have := World.ownsRow.cells h (g := g) rfl j (.int .i64 (endR (rs.take (j + 1)) : Int)) (by unfold endC; rw [List.getElem?_map, List.getElem?_range hj]; rfl)
  rwa [Addr.add_lit, Nat.zero_add] at this
end Go.Proofs.Yteddlpcnefogpaa
