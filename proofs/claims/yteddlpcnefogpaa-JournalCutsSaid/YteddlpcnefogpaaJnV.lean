/- slices.Values of records that are handed in. -/
import Derived.Test.YteddlpcnefogpaaJnA
import Derived.Test.YteddlpcnefogpaaJnO
namespace Go.Proofs.Yteddlpcnefogpaa
open Go Go.Proofs Go.RowKit Go.Shelf
set_option maxRecDepth 100000
attribute [local go_sem] Oper.semAt_some
/-- a record that is handed in, in a world: where its bytes lie -/
abbrev SY (w : World) := { x : Yl // OkR x.r ∧ BysC w x.a x.r.2.length x.c x.r.2 }
abbrev syV {w : World} (x : SY w) : Value := .agg #[byV x.1.r.1, x.1.dv]
def RcsL {w : World} (n₀ : Nat) (W : World) (sv : Value) (zs : List (SY w)) : Prop :=
  ((∃ a c, sv = .slice a 0 c) ∧ zs = []) ∨ ∃ b off cap, sv = .slice (some ⟨b, off, none⟩) zs.length cap ∧ b < n₀ ∧ ∀ j x, zs[j]? = some x →
    W.cell? ⟨b, off + j * 2, none⟩ = some (byV x.1.r.1) ∧ W.cell? ⟨b, off + j * 2 + 1, none⟩ = some x.1.dv
theorem RcsL.below {w : World} {n₀ : Nat} {A B : World} (h : Below n₀ A B) {sv : Value} {zs : List (SY w)} : RcsL n₀ A sv zs → RcsL n₀ B sv zs
  | .inl e => .inl e
  | .inr ⟨b, off, cap, e, hb, hc⟩ => .inr ⟨b, off, cap, e, hb, fun j x hj => ⟨(h.cell (p := ⟨b, off + j * 2, none⟩) hb).trans (hc j x hj).1, (h.cell (p := ⟨b, off + j * 2 + 1, none⟩) hb).trans (hc j x hj).2⟩⟩
theorem Rcs.pick {w : World} {sv : Value} {rs : List Rec} (h : Rcs w sv rs) (hr : ∀ r ∈ rs, OkR r) : ∃ zs : List (SY w), zs.map (fun x => x.1.r) = rs ∧ RcsL w.heap.size w sv zs := by
  rcases h with ⟨h, rfl⟩ | ⟨g, off, cap, rfl, hg, hc⟩
  · exact ⟨[], rfl, .inl ⟨h, rfl⟩⟩
  · have hx : ∀ j : Fin rs.length, ∃ x : SY w, x.1.r = rs[j] ∧ w.cell? ⟨g, off + j.1 * 2, none⟩ = some (byV x.1.r.1) ∧ w.cell? ⟨g, off + j.1 * 2 + 1, none⟩ = some x.1.dv := fun j => by
      obtain ⟨a, c, h1, h2, h3⟩ := hc j.1 rs[j] (List.getElem?_eq_getElem j.2)
      exact ⟨⟨⟨rs[j], a, c, 0⟩, hr _ (List.getElem_mem _), h3⟩, rfl, h1, h2⟩
    have hz : ∀ j x, (List.ofFn fun j => Classical.choose (hx j))[j]? = some x → ∃ h : j < rs.length, x = Classical.choose (hx ⟨j, h⟩) := fun j x hj => by
      rw [List.getElem?_ofFn] at hj
      split at hj
      · rename_i hl
        exact ⟨hl, (Option.some.inj hj).symm⟩
      · cases hj
    refine ⟨List.ofFn fun j => Classical.choose (hx j), ?_, .inr ⟨g, off, cap, by rw [List.length_ofFn], hg, fun j x hj => ?_⟩⟩
    · apply List.ext_getElem?
      intro j
      rw [List.getElem?_map]
      by_cases hj : j < rs.length
      · rw [List.getElem?_ofFn, dif_pos hj, Option.map_some, (Classical.choose_spec (hx ⟨j, hj⟩)).1]
        exact (List.getElem?_eq_getElem hj).symm
      · rw [List.getElem?_eq_none (by rw [List.length_ofFn]; omega), List.getElem?_eq_none (by omega)]
        rfl
    · obtain ⟨hl, rfl⟩ := hz j x hj
      exact (Classical.choose_spec (hx ⟨j, hl⟩)).2
set_option maxHeartbeats 4000000 in
theorem rvals1_in {w0 : World} (F : Fence) (n : Nat) (hf : F.fn 43) (hro : F.round = none) (hn : 1 ≤ n) (l Bs n₀ b off cap : Nat) (zs : List (SY w0)) (hreach : zs.length ≤ 1099511627776) (hb : b < n₀) (J Jx : List (SY w0) → World → Prop)
    (hJa : ∀ pre W o, J pre W → J pre (W.alloc o))
    (hY : ∀ pre x W, J pre W → pre.length < zs.length → YieldAt F (n - 1) Try.prog l #[syV x] W fun e W' =>
      (e = .returned (.bool true) ∧ J (pre ++ [x]) W' ∧ Below n₀ W W') ∨ (e = .returned (.bool false) ∧ Jx (pre ++ [x]) W'))
    (W : World) (hn0 : n₀ ≤ W.heap.size) (hBs : W.cell? ⟨Bs, 0, none⟩ = some (.slice (some ⟨b, off, none⟩) zs.length cap))
    (hc : ∀ j x, zs[j]? = some x → W.cell? ⟨b, off + j * 2, none⟩ = some (byV x.1.r.1) ∧ W.cell? ⟨b, off + j * 2 + 1, none⟩ = some x.1.dv) (h0 : J [] W) :
    CallsIn F n Try.prog 43 #[.func (.yield l) #[] #[], .pointer (some ⟨Bs, 0, none⟩)] W fun e W' => (∃ v, e = .returned v) ∧
      ((∃ ys, ys = zs ∧ J ys W') ∨ (∃ pre, pre <+: zs ∧ Jx pre W')) := by
  refine callsIn_of_wp Try.func43 rfl hf ?_ hro
  simp only [Try.ntmps43, List.size_toArray, List.length_cons, List.length_nil, Nat.reduceAdd, Nat.reduceSub, Array.replicate_succ, Array.replicate_zero, List.push_toArray, List.append_toArray, List.nil_append, List.cons_append]
  gi_wp2
  gi_loopw [7] (fun i wr => ∃ k : Nat, k ≤ zs.length ∧ i = .int .i64 (k : Int) ∧ J (zs.take k) wr ∧ Below n₀ W wr ∧ n₀ ≤ wr.heap.size)
    (fun i _ => zs.length - (intOf i).toNat)
  case atStart => exact ⟨0, Nat.zero_le _, rfl, h0, Below.refl _ _, hn0⟩
  case round =>
    obtain ⟨k, hk, rfl, hJs, hnx, hge⟩ := hrel
    by_cases hlt : k < zs.length
    · obtain ⟨x, hx⟩ : ∃ x, zs[k]? = some x := ⟨_, List.getElem?_eq_getElem hlt⟩
      obtain ⟨hn1, he1⟩ := List.getElem?_eq_some_iff.1 hx
      have htk : zs.take (k + 1) = zs.take k ++ [x] := by rw [List.take_succ_eq_append_getElem hn1, he1]
      obtain ⟨c0, c1⟩ := hc k x hx
      have c0 := (hnx.cell (p := ⟨b, off + k * 2, none⟩) hb).trans c0
      have c1 := (hnx.cell (p := ⟨b, off + k * 2 + 1, none⟩) hb).trans c1
      have hJa' := hJa _ _ (.cells #[byV x.1.r.1, x.1.dv] 42) hJs
      obtain ⟨fn, tmps, assign, body, hy, hR⟩ := hY _ x _ hJa' (by rw [List.length_take]; omega)
      have h1 : (0 : Int) ≤ (k : Int) := by omega
      have h2 : (k : Int) < (zs.length : Int) := by omega
      have TK := Lib.hid htk
      clear htk hx he1
      gi_wp2
      refine hR.mono ?_
      rintro e W3 (⟨rfl, hJ3, hk3⟩ | ⟨rfl, hJx3⟩)
      · gi_wp2
        go_roundw
        case rel => exact ⟨k + 1, by omega, by simp, by rw [TK.out]; exact hJ3, hnx.trans (((Below.refl _ _).alloc hge _).trans hk3), Nat.le_trans (Nat.le_trans hge (by simp)) hk3.size⟩
        case measure => simp [intOf]; omega
      · gi_wp2
        refine bodyPost_ret (results_none rfl _ _ _) rfl ?_
        exact ⟨⟨_, rfl⟩, .inr ⟨_, by rw [← TK.out]; exact List.take_prefix _ _, hJx3⟩⟩
    · obtain rfl : k = zs.length := by omega
      gi_wp2
      go_end0
      rw [List.take_length] at hJs
      exact ⟨⟨_, rfl⟩, .inl ⟨_, rfl, hJs⟩⟩
theorem rvals1_nil_in {w0 : World} (F : Fence) (n : Nat) (hf : F.fn 43) (hro : F.round = none) (l Bs : Nat) (J : List (SY w0) → World → Prop) (a : Option Addr) (c : Nat) (W : World) (hBs : W.cell? ⟨Bs, 0, none⟩ = some (.slice a 0 c)) (h0 : J [] W) :
    CallsIn F n Try.prog 43 #[.func (.yield l) #[] #[], .pointer (some ⟨Bs, 0, none⟩)] W fun e W' => (∃ v, e = .returned v) ∧ J [] W' := by
  refine callsIn_of_wp Try.func43 rfl hf ?_ hro
  simp only [Try.ntmps43, List.size_toArray, List.length_cons, List.length_nil, Nat.reduceAdd, Nat.reduceSub, Array.replicate_succ, Array.replicate_zero, List.push_toArray, List.append_toArray, List.nil_append, List.cons_append]
  gi_wp2
  gi_loopw [7] (fun i wr => i = .int .i64 0 ∧ J [] wr) (fun _ _ => 0)
  case atStart => exact ⟨rfl, h0⟩
  case round =>
    obtain ⟨rfl, hJs⟩ := hrel
    gi_wp2
    go_end0
    exact ⟨⟨_, rfl⟩, hJs⟩
theorem rvals_in (F : Fence) (n : Nat) (hf : F.fn 37) (hro : F.round = none) (a : Option Addr) (len cap : Nat) (w : World) :
    CallsIn F n Try.prog 37 #[.slice a len cap] w fun e w' => e = .returned (.func (.func 43) #[] #[.pointer (some ⟨w.heap.size, 0, none⟩)]) ∧ w' = w.alloc (.cells #[.slice a len cap] 24) := by
  refine callsIn_of_wp Try.func37 rfl hf ?_ hro
  simp only [Try.ntmps37, List.size_toArray, List.length_cons, List.length_nil, Nat.reduceAdd, Nat.reduceSub, Array.replicate_succ, Array.replicate_zero, List.push_toArray, List.append_toArray, List.nil_append, List.cons_append]
  gi_wp2
  go_ret
  exact ⟨rfl, rfl⟩
theorem rvals_stops {w0 : World} (F : Fence) (n : Nat) (hf : F.fn 43) (hro : F.round = none) (hn : 1 ≤ n) (Bs n₀ : Nat) (sv : Value) (zs : List (SY w0)) (hreach : zs.length ≤ 1099511627776) (w : World) (hBs : Bs < w.heap.size) (hn₀ : n₀ ≤ w.heap.size)
    (hc : w.cell? ⟨Bs, 0, none⟩ = some sv) (hI : RcsL n₀ w sv zs) :
    SeqStopsK F n Try.prog 43 #[.pointer (some ⟨Bs, 0, none⟩)] (fun x : SY w0 => #[syV x]) (Below n₀) (fun ys => ys = zs) (fun pre => pre <+: zs) zs.length w := fun l J Jx W hW hJ _ hY h0 => by
  have hc' := (hW.cell (p := ⟨Bs, 0, none⟩) hBs).trans hc
  rcases hI.below (hW.mono hn₀) with ⟨⟨a0, k0, rfl⟩, rfl⟩ | ⟨b, off, cap, rfl, hb, hcs⟩
  · exact (rvals1_nil_in F n hf hro l Bs J a0 k0 W hc' h0).mono fun e W' ⟨he, hj⟩ => ⟨he, .inl ⟨_, rfl, hj⟩⟩
  · exact (rvals1_in F n hf hro hn l Bs n₀ b off cap zs hreach hb J Jx (fun pre W1 o h => hJ pre W1 (W1.alloc o) none h (World.grownBy_alloc _ _ none) (fun r e => by cases e)) hY W (Nat.le_trans hn₀ hW.size) hc' hcs h0).mono fun e W' h => h
end Go.Proofs.Yteddlpcnefogpaa
