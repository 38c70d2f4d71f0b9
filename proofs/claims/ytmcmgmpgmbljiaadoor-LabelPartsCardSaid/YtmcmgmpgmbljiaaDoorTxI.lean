/- label.items: the labels as items, one by one: an iterator that itself ranges. -/
import Derived.Test.YtmcmgmpgmbljiaaDoorBrV
import Derived.Test.YtmcmgmpgmbljiaaDoorRangeJ
import Derived.Test.YtmcmgmpgmbljiaaDoorCheck
namespace Go.Proofs.YtmcmgmpgmbljiaaDoor
open Go Go.Proofs Go.RowKit Go.Shelf
set_option maxRecDepth 100000
attribute [local go_sem] Oper.semAt_some
theorem own_laterI {β : Type} {B B' : Nat} {J : β → World → Prop} (h : OwnFrom B J) (hB : B ≤ B') : OwnFrom B' J := fun s W W' row hs hg hr => h s W W' row hs hg (fun r e => ⟨Nat.le_trans hB (hr r e).1, (hr r e).2⟩)
set_option maxHeartbeats 8000000 in
theorem items_stops (Bs n₀ : Nat) (sv : Value) (zs : List SLab) (hreach : zs.length ≤ 1000000) (w : World) (hn₀ : n₀ ≤ w.heap.size) (h1 : Bs < n₀)
    (hs : w.cell? ⟨Bs, 0, none⟩ = some sv) (hL : Labs n₀ w sv zs) :
    SeqStopsJ 5 Fence.wide 8 Tryd.prog 56 #[.pointer (some ⟨Bs, 0, none⟩)] (fun x : SLab => #[itmV (labI x.1)]) n₀ (fun ys => ys = zs) (fun pre => pre <+: zs) zs.length w := by
  intro l J Jx W hW hJ hJx hY h0
  have hsz0 : n₀ ≤ W.heap.size := Nat.le_trans hn₀ hW.size
  have hw0 : Below n₀ w W := hW.mono hn₀
  have hs := (hw0.cell (p := ⟨Bs, 0, none⟩) h1).trans hs
  have hL := hL.below hw0
  clear hw0 hW
  refine callsIn_of_wp_marks Tryd.func56 rfl trivial ?_ rfl
  simp only [Tryd.ntmps56, List.size_toArray, List.length_cons, List.length_nil, Nat.reduceAdd, Nat.reduceSub, Array.replicate_succ, Array.replicate_zero, List.push_toArray, List.append_toArray, List.nil_append, List.cons_append]
  have hsh : ∃ a len cap, sv = .slice a len cap := by
    rcases hL with ⟨⟨_, _, rfl⟩, _⟩ | ⟨b, off, cap, rfl, _⟩
    · exact ⟨_, _, _, rfl⟩
    · exact ⟨_, _, _, rfl⟩
  obtain ⟨a, len, cap, rfl⟩ := hsh
  have H0 := Lib.hid h0
  have HY := Lib.hid hY
  clear h0 hY
  have ba : Below n₀ W (W.alloc (.cells #[.func (.yield l) #[] #[]] 87)) := (Below.refl n₀ W).alloc hsz0 _
  have hs1 := (ba.cell (p := ⟨Bs, 0, none⟩) h1).trans hs
  clear ba
  gi_wp2
  refine ⟨trivial, (values_in Fence.wide 7 trivial rfl _ _ _ _).mono ?_⟩
  rintro e w1 ⟨rfl, rfl⟩
  gi_wp2
  obtain ⟨W0, hW0⟩ : ∃ W0, ((W.alloc (.cells #[.func (.yield l) #[] #[]] 87)).alloc (.cells #[.slice a len cap] 23)) = W0 := ⟨_, rfl⟩
  have hlp : Below W.heap.size W W0 := by rw [← hW0]; go_grown
  have hsz : W0.heap.size = W.heap.size + 2 := by rw [← hW0]; simp
  have by0 : Boxed W0 W.heap.size 87 (.func (.yield l) #[] #[]) := by
    rw [← hW0]
    exact (Boxed.new W 87 (.func (.yield l) #[] #[])).alloc _
  have bs0 : W0.cell? ⟨W.heap.size + 1, 0, none⟩ = some (.slice a len cap) := by
    rw [← hW0]
    have h := Boxed.new (W.alloc (.cells #[.func (.yield l) #[] #[]] 87)) 23 (.slice a len cap)
    rw [World.size_alloc] at h
    exact h.cell
  have hj0 : J [] W0 := by rw [← hW0]; exact hJ.alloc _ (hJ.alloc _ H0.out)
  have h00 : Below n₀ W W0 := hlp.mono hsz0
  have hL0 := hL.below h00
  rw [hW0]
  clear hs1 hs hL H0 hW0
  refine wpIn_rangeFunc_ownH (F := Fence.wide) (n := 8) rfl (by omega) (gf := 54) (lb := #[.pointer (some ⟨W.heap.size + 1, 0, none⟩)]) rfl trivial (enters_of Tryd.func54 (by kernel_rfl) rfl)
    (encs := fun x => #[labV x.1]) (Kp := Below n₀) (values_stops Fence.wide (8 - 1) trivial rfl (by omega) (W.heap.size + 1) n₀ (.slice a len cap) zs (by omega) W0 (by omega) (by omega) bs0 hL0) belowK_t (belowK_b (by omega)) (Below.refl _ _) (fun _ => rfl)
    (fun pre V => J pre V ∧ Boxed V W.heap.size 87 (.func (.yield l) #[] #[]) ∧ Below n₀ W0 V)
    (fun c pre V => c = .ret ∧ Jx pre V)
    (OwnFrom.and (own_laterI hJ (by omega)) (OwnFrom.and (Own.from (boxed_own W.heap.size 87 (fun _ => .func (.yield l) #[] #[])) _) (ownFrom_below (by omega) (by omega))))
    (fun c => OwnFrom.and (ownFrom_pure _ _) (own_laterI hJx (by omega)))
    ⟨hj0, by0, Below.refl _ _⟩
    (fun x a' V => ∃ Bx, W.heap.size + 1 < Bx ∧ Blk V Bx #[.string ⟨x.1.1.toArray⟩, .string ⟨x.1.2.toArray⟩] 55 ∧ a' = { tmps := #[.func (.yield l) #[] #[], .pointer (some ⟨Bs, 0, none⟩), .pointer (some ⟨W.heap.size, 0, none⟩), .pointer (some ⟨Bx, 0, none⟩), .slice a len cap, .func (.func 54) #[] #[.pointer (some ⟨W.heap.size + 1, 0, none⟩)], .agg #[.string ⟨x.1.1.toArray⟩, .string ⟨x.1.2.toArray⟩], undef, undef, undef, undef, undef, undef, undef, undef], defers := [] })
    (fun x a' => ?ax) ?assign ?body ?done ?stop
  case ax => exact fun s X Y row ⟨Bx, q1, q2, q3⟩ hg hr => ⟨Bx, q1, (blk_own (β := Unit) Bx _ _).from _ () X Y row q2 hg hr, q3⟩
  case assign =>
    rintro l' pre x V K ⟨hj, hy, hB⟩ hK
    simp only [labV]
    have hVs : W0.heap.size ≤ V.heap.size := hB.size
    have HJ := Lib.hid hj
    clear hj
    gi_wp2
    exact hK _ _ ((KeepsOthers.alloc _ _).from _) ((Below.refl _ V).alloc (by omega) _) ⟨hJ.alloc _ HJ.out, hy.alloc _, hB.alloc (by omega) _⟩ ⟨V.heap.size, by omega, heap_alloc_new V _, rfl⟩
  case body =>
    rintro l' pre x a' V hl ⟨r, hr⟩ ⟨hj, hy, hB⟩ ⟨Bx, hBx, bX, rfl⟩ hlen
    have hVs : W0.heap.size ≤ V.heap.size := hB.size
    obtain ⟨⟨xn, xv⟩, hx⟩ := x
    dsimp only at bX
    have cx0 := blk_cell (j := 0) bX rfl
    have cx1 := blk_cell (j := 1) bX rfl
    have cy := hy.cell
    obtain ⟨fn, tmps, assign, body, hy', hR⟩ := yield_inRound l' (yield_depth (m' := 5) (HY.out pre ⟨(xn, xv), hx⟩ V hj hlen))
    dsimp only [itmV, labI] at hy'
    have hwV : W.heap.size ≤ V.heap.size := by omega
    clear hj
    gi_wp2
    refine hR.mono ?_
    rintro e W3 (⟨rfl, hJ3, hb3, hk3⟩ | ⟨rfl, hJx3, hk3⟩)
    · have HJ3 := Lib.hid hJ3
      have y3 : Boxed W3 W.heap.size 87 (.func (.yield l) #[] #[]) := hk3.same _ _ (Nat.le_refl _) hy (fun c fz e => by cases e)
      have k3 := hk3.mono (Nat.le_trans (Nat.le_add_right _ 2) (Nat.le_of_eq hsz.symm))
      have HK3 := Lib.hid k3
      clear hJ3 hR hk3
      gi_wp2
      exact ⟨HK3.out.from, hb3, HJ3.out, y3, hB.trans hb3⟩
    · have HJ3 := Lib.hid hJx3
      have k3 := hk3.mono (Nat.le_trans (Nat.le_add_right _ 2) (Nat.le_of_eq hsz.symm))
      have HK3 := Lib.hid k3
      clear hJx3 hR hk3
      gi_wp2
      exact ⟨HK3.out.from, rfl, HJ3.out⟩
  case done =>
    rintro D ys V hD rfl ⟨hj, hy, hB⟩ hK
    have HJ := Lib.hid hj
    clear hj
    gi_wp2
    refine ⟨by simp, .inl ⟨_, _, rfl, run_takeDeferred hK, ?_⟩⟩
    exact ⟨_, results_none rfl _ _ _, ⟨_, rfl⟩, .inl ⟨_, rfl, hJ.putObj _ HJ.out (by omega) hK rfl⟩⟩
  case stop =>
    rintro D c pre V hD hpre ⟨rfl, hj⟩ hK
    have HJ := Lib.hid hj
    clear hj
    gi_wp2
    refine ⟨by simp, .inl ⟨_, _, rfl, run_takeDeferred hK, ?_⟩⟩
    exact ⟨_, results_none rfl _ _ _, ⟨_, rfl⟩, .inr ⟨_, hpre, hJx.putObj _ HJ.out (by omega) hK rfl⟩⟩
end Go.Proofs.YtmcmgmpgmbljiaaDoor
