/- slices.Values of items that are labels. -/
import Derived.Test.YtmcmgmpgmbljiaaDoorBrP
namespace Go.Proofs.YtmcmgmpgmbljiaaDoor
open Go Go.Proofs Go.RowKit Go.Shelf
set_option maxRecDepth 100000
attribute [local go_sem] Oper.semAt_some
/-- labels as items in memory -/
def ItL (n₀ : Nat) (W : World) (sv : Value) (zs : List SLab) : Prop :=
  ((∃ a c, sv = .slice a 0 c) ∧ zs = []) ∨ ∃ b off cap, sv = .slice (some ⟨b, off, none⟩) zs.length cap ∧ b < n₀ ∧ ∀ j x, zs[j]? = some x →
    W.cell? ⟨b, off + j * 3, none⟩ = some (.string ⟨x.1.1.toArray⟩) ∧ W.cell? ⟨b, off + j * 3 + 1, none⟩ = some (.string ⟨#[61]⟩) ∧ W.cell? ⟨b, off + j * 3 + 2, none⟩ = some (.string ⟨x.1.2.toArray⟩)
theorem ItL.below {n₀ : Nat} {A B : World} (h : Below n₀ A B) {sv : Value} {zs : List SLab} : ItL n₀ A sv zs → ItL n₀ B sv zs
  | .inl e => .inl e
  | .inr ⟨b, off, cap, e, hb, hc⟩ => .inr ⟨b, off, cap, e, hb, fun j x hj => ⟨(h.cell (p := ⟨b, off + j * 3, none⟩) hb).trans (hc j x hj).1, (h.cell (p := ⟨b, off + j * 3 + 1, none⟩) hb).trans (hc j x hj).2.1, (h.cell (p := ⟨b, off + j * 3 + 2, none⟩) hb).trans (hc j x hj).2.2⟩⟩
def toI (x : SLab) : SItm := ⟨labI x.1, by have h := x.2; unfold Short at h; unfold ShortI labI; simp; omega⟩
def ops1 : List STx := [⟨[61], by simp⟩]
def itz (z : SLab × Bool) : SItm × Bool := if z.2 then (toI z.1, true) else (nilItm, false)
theorem wri_of : ∀ (zs : List (SLab × Bool)) (a r : List UInt8), Wr a r zs → WrI (ops1.map (·.1)) a r (zs.map itz) := by
  intro zs
  induction zs with
  | nil => intro a r h; exact h.elim
  | cons z t ih =>
    intro a r h
    have e : takeI (ops1.map (·.1)) a r = (takeL a r).map (fun xr => (labI xr.1, xr.2)) := takeW a r
    rw [List.map_cons]
    unfold WrI
    rw [e]
    unfold Wr at h
    cases hk : takeL a r with
    | none =>
      rw [hk] at h
      obtain ⟨rfl, rfl⟩ := h
      exact ⟨rfl, rfl⟩
    | some xb =>
      obtain ⟨x, b⟩ := xb
      rw [hk] at h
      obtain ⟨h1, h2, h3⟩ := h
      dsimp only [Option.map]
      obtain ⟨y, ok⟩ := z
      dsimp only at h1 h2
      subst h1 h2
      refine ⟨rfl, rfl, ?_⟩
      by_cases hb : b = [125]
      · rw [if_pos hb] at h3 ⊢; rw [h3]; rfl
      · rw [if_neg hb] at h3 ⊢; exact ih _ _ h3
theorem wrsi_of {s : List UInt8} {zs : List (SLab × Bool)} (h : WrS s zs) : WrSI (ops1.map (·.1)) s (zs.map itz) := by
  unfold WrS at h
  unfold WrSI
  by_cases h1 : Lib.hasPrefix s [123, 125] = true
  · rw [if_pos h1] at h ⊢
    by_cases h2 : Lib.trimPrefix s [123, 125] = []
    · rw [if_pos h2] at h ⊢; rw [h]; rfl
    · rw [if_neg h2] at h ⊢; rw [h]; rfl
  · rw [if_neg h1] at h ⊢; exact wri_of _ _ _ h
theorem ok_items (zs : List (SLab × Bool)) : allOkI (zs.map itz) ↔ ∀ z ∈ zs, z.2 = true := by
  unfold allOkI
  constructor
  · intro h z hz
    have := h (itz z) (List.mem_map_of_mem hz)
    unfold itz at this
    cases hq : z.2
    · rw [hq] at this; exact this
    · rfl
  · intro h z hz
    obtain ⟨y, hy, rfl⟩ := List.mem_map.1 hz
    unfold itz; rw [if_pos (h y hy)]
theorem items_ok (zs : List (SLab × Bool)) (h : ∀ z ∈ zs, z.2 = true) : (zs.map itz).map (·.1) = (zs.map (·.1)).map toI := by
  rw [List.map_map, List.map_map]
  apply List.map_congr_left
  intro z hz
  show (itz z).1 = toI z.1
  unfold itz; rw [if_pos (h z hz)]
theorem itmC_at (zs : List SLab) : ∀ j x, zs[j]? = some x → (itmC (zs.map toI))[j * 3]? = some (.string ⟨x.1.1.toArray⟩) ∧ (itmC (zs.map toI))[j * 3 + 1]? = some (.string ⟨#[61]⟩) ∧ (itmC (zs.map toI))[j * 3 + 2]? = some (.string ⟨x.1.2.toArray⟩) := by
  induction zs with
  | nil => intro j x h; simp at h
  | cons y t ih =>
    intro j x h
    have e : itmC ((y :: t).map toI) = .string ⟨y.1.1.toArray⟩ :: .string ⟨#[61]⟩ :: .string ⟨y.1.2.toArray⟩ :: itmC (t.map toI) := by unfold itmC; rw [List.map_cons, List.flatMap_cons]; rfl
    rw [e]
    cases j with
    | zero => simp at h; subst h; simp
    | succ j =>
      have := ih j x (by simpa using h)
      rw [show (j + 1) * 3 = j * 3 + 1 + 1 + 1 by omega]
      simpa using this
theorem itl_of_row {W : World} {base : Nat} {v : Value} {zs : List SLab} (h : W.ownsRow base 72 3 v zs.length (itmC (zs.map toI))) : ItL W.heap.size W v zs := by
  obtain ⟨_, ⟨rfl, h0⟩ | ⟨g, cap, cur, rfl, hb, hg, hnc, hcm, hcs, ht⟩⟩ := h
  · exact .inl ⟨⟨_, _, rfl⟩, List.eq_nil_of_length_eq_zero h0⟩
  · refine .inr ⟨g, 0, cap, rfl, (Array.getElem?_eq_some_iff.1 hg).1, fun j x hj => ?_⟩
    obtain ⟨c1, c2, c3⟩ := itmC_at zs j x hj
    have hjl : j < zs.length := (List.getElem?_eq_some_iff.1 hj).1
    rw [← ht, List.getElem?_take] at c1 c2 c3
    rw [if_pos (by omega)] at c1 c2 c3
    refine ⟨?_, ?_, ?_⟩
    · refine blk_cellI hg ?_; simpa using c1
    · refine blk_cellI hg ?_; simpa using c2
    · refine blk_cellI hg ?_; simpa using c3
set_option maxHeartbeats 4000000 in
theorem ivalues1_in (F : Fence) (n : Nat) (hf : F.fn 58) (hro : F.round = none) (hn : 1 ≤ n) (l Bs n₀ b off cap : Nat) (zs : List SLab) (hreach : zs.length ≤ 1000000) (hb : b < n₀) (J Jx : List SLab → World → Prop)
    (hJa : ∀ pre W o, J pre W → J pre (W.alloc o))
    (hY : ∀ pre x W, J pre W → pre.length < zs.length → YieldAt F (n - 1) Tryd.prog l #[itmV (labI x.1)] W fun e W' =>
      (e = .returned (.bool true) ∧ J (pre ++ [x]) W' ∧ Below n₀ W W') ∨ (e = .returned (.bool false) ∧ Jx (pre ++ [x]) W'))
    (W : World) (hn0 : n₀ ≤ W.heap.size) (hBs : W.cell? ⟨Bs, 0, none⟩ = some (.slice (some ⟨b, off, none⟩) zs.length cap))
    (hc : ∀ j x, zs[j]? = some x → W.cell? ⟨b, off + j * 3, none⟩ = some (.string ⟨x.1.1.toArray⟩) ∧ W.cell? ⟨b, off + j * 3 + 1, none⟩ = some (.string ⟨#[61]⟩) ∧ W.cell? ⟨b, off + j * 3 + 2, none⟩ = some (.string ⟨x.1.2.toArray⟩)) (h0 : J [] W) :
    CallsIn F n Tryd.prog 58 #[.func (.yield l) #[] #[], .pointer (some ⟨Bs, 0, none⟩)] W fun e W' => (∃ v, e = .returned v) ∧
      ((∃ ys, ys = zs ∧ J ys W') ∨ (∃ pre, pre <+: zs ∧ Jx pre W')) := by
  refine callsIn_of_wp Tryd.func58 rfl hf ?_ hro
  simp only [Tryd.ntmps58, List.size_toArray, List.length_cons, List.length_nil, Nat.reduceAdd, Nat.reduceSub, Array.replicate_succ, Array.replicate_zero, List.push_toArray, List.append_toArray, List.nil_append, List.cons_append]
  gi_wp2
  gi_loopw [7] (fun i wr => ∃ k : Nat, k ≤ zs.length ∧ i = .int .i64 (k : Int) ∧ J (zs.take k) wr ∧ Below n₀ W wr ∧ n₀ ≤ wr.heap.size)
    (fun i _ => zs.length - (intOf i).toNat)
  case atStart => exact ⟨0, Nat.zero_le _, rfl, h0, Below.refl _ _, hn0⟩
  case round =>
    obtain ⟨k, hk, rfl, hJs, hnx, hge⟩ := hrel
    by_cases hlt : k < zs.length
    · obtain ⟨x, hx⟩ : ∃ x, zs[k]? = some x := ⟨_, List.getElem?_eq_getElem hlt⟩
      obtain ⟨hn1, he1⟩ := List.getElem?_eq_some_iff.1 hx
      have htk : zs.take (k + 1) = zs.take k ++ [x] := by rw [List.take_succ_eq_append_getElem hn1, he1]
      obtain ⟨c0, c1, c2⟩ := hc k x hx
      have c0 := (hnx.cell (p := ⟨b, off + k * 3, none⟩) hb).trans c0
      have c1 := (hnx.cell (p := ⟨b, off + k * 3 + 1, none⟩) hb).trans c1
      have c2 := (hnx.cell (p := ⟨b, off + k * 3 + 2, none⟩) hb).trans c2
      have hJa' := hJa _ _ (.cells #[.string ⟨x.1.1.toArray⟩, .string ⟨#[61]⟩, .string ⟨x.1.2.toArray⟩] 72) hJs
      obtain ⟨fn, tmps, assign, body, hy, hR⟩ := hY _ x _ hJa' (by rw [List.length_take]; omega)
      unfold itmV labI at hy
      have h1 : (0 : Int) ≤ (k : Int) := by omega
      have h2 : (k : Int) < (zs.length : Int) := by omega
      have TK := Lib.hid htk
      clear htk hx he1
      gi_wp2
      refine hR.mono ?_
      rintro e W3 (⟨rfl, hJ3, hk3⟩ | ⟨rfl, hJx3⟩)
      · gi_wp2
        go_roundw
        case rel => exact ⟨k + 1, by omega, by simp, by rw [TK.out]; exact hJ3, hnx.trans (((Below.refl _ _).alloc hge _).trans hk3), Nat.le_trans (Nat.le_trans hge (by simp)) hk3.size⟩
        case measure => simp [intOf]; omega
      · gi_wp2
        refine bodyPost_ret (results_none rfl _ _ _) rfl ?_
        exact ⟨⟨_, rfl⟩, .inr ⟨_, by rw [← TK.out]; exact List.take_prefix _ _, hJx3⟩⟩
    · obtain rfl : k = zs.length := by omega
      gi_wp2
      go_end0
      rw [List.take_length] at hJs
      exact ⟨⟨_, rfl⟩, .inl ⟨_, rfl, hJs⟩⟩
theorem ivalues1_nil_in (F : Fence) (n : Nat) (hf : F.fn 58) (hro : F.round = none) (l Bs : Nat) (J : List SLab → World → Prop) (a : Option Addr) (c : Nat) (W : World) (hBs : W.cell? ⟨Bs, 0, none⟩ = some (.slice a 0 c)) (h0 : J [] W) :
    CallsIn F n Tryd.prog 58 #[.func (.yield l) #[] #[], .pointer (some ⟨Bs, 0, none⟩)] W fun e W' => (∃ v, e = .returned v) ∧ J [] W' := by
  refine callsIn_of_wp Tryd.func58 rfl hf ?_ hro
  simp only [Tryd.ntmps58, List.size_toArray, List.length_cons, List.length_nil, Nat.reduceAdd, Nat.reduceSub, Array.replicate_succ, Array.replicate_zero, List.push_toArray, List.append_toArray, List.nil_append, List.cons_append]
  gi_wp2
  gi_loopw [7] (fun i wr => i = .int .i64 0 ∧ J [] wr) (fun _ _ => 0)
  case atStart => exact ⟨rfl, h0⟩
  case round =>
    obtain ⟨rfl, hJs⟩ := hrel
    gi_wp2
    go_end0
    exact ⟨⟨_, rfl⟩, hJs⟩
/-- slices.Values(s): the slice value is boxed; the function value captures the box -/
theorem ivalues_in (F : Fence) (n : Nat) (hf : F.fn 41) (hro : F.round = none) (a : Option Addr) (len cap : Nat) (w : World) :
    CallsIn F n Tryd.prog 41 #[.slice a len cap] w fun e w' => e = .returned (.func (.func 58) #[] #[.pointer (some ⟨w.heap.size, 0, none⟩)]) ∧ w' = w.alloc (.cells #[.slice a len cap] 67) := by
  refine callsIn_of_wp Tryd.func41 rfl hf ?_ hro
  simp only [Tryd.ntmps41, List.size_toArray, List.length_cons, List.length_nil, Nat.reduceAdd, Nat.reduceSub, Array.replicate_succ, Array.replicate_zero, List.push_toArray, List.append_toArray, List.nil_append, List.cons_append]
  gi_wp2
  go_ret
  exact ⟨rfl, rfl⟩
/-- all of zs, in order; or a prefix -/
theorem ivalues_stops (F : Fence) (n : Nat) (hf : F.fn 58) (hro : F.round = none) (hn : 1 ≤ n) (Bs n₀ : Nat) (sv : Value) (zs : List SLab) (hreach : zs.length ≤ 1000000) (w : World) (hBs : Bs < w.heap.size) (hn₀ : n₀ ≤ w.heap.size)
    (hc : w.cell? ⟨Bs, 0, none⟩ = some sv) (hI : ItL n₀ w sv zs) :
    SeqStopsK F n Tryd.prog 58 #[.pointer (some ⟨Bs, 0, none⟩)] (fun x : SLab => #[itmV (labI x.1)]) (Below n₀) (fun ys => ys = zs) (fun pre => pre <+: zs) zs.length w := fun l J Jx W hW hJ _ hY h0 => by
  have hc' := (hW.cell (p := ⟨Bs, 0, none⟩) hBs).trans hc
  rcases hI.below (hW.mono hn₀) with ⟨⟨a0, k0, rfl⟩, rfl⟩ | ⟨b, off, cap, rfl, hb, hcs⟩
  · exact (ivalues1_nil_in F n hf hro l Bs J a0 k0 W hc' h0).mono fun e W' ⟨he, hj⟩ => ⟨he, .inl ⟨_, rfl, hj⟩⟩
  · exact (ivalues1_in F n hf hro hn l Bs n₀ b off cap zs hreach hb J Jx (fun pre W1 o h => hJ pre W1 (W1.alloc o) none h (World.grownBy_alloc _ _ none) (fun r e => by cases e)) hY W (Nat.le_trans hn₀ hW.size) hc' hcs h0).mono fun e W' h => h
end Go.Proofs.YtmcmgmpgmbljiaaDoor
