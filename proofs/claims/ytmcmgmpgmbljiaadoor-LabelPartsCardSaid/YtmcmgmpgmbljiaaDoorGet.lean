/- label.Get. -/
import Derived.Test.YtmcmgmpgmbljiaaDoorTxt
namespace Go.Proofs.YtmcmgmpgmbljiaaDoor
open Go Go.Proofs Go.RowKit Go.Shelf
set_option maxRecDepth 100000
attribute [local go_sem] Oper.semAt_some
def getR (n : List UInt8) : List SLab → List UInt8
  | [] => []
  | x :: t => if x.1.1 = n then x.1.2 else getR n t
theorem get_hit (n : List UInt8) (p : List SLab) (x : SLab) (hp : ∀ y ∈ p, y.1.1 ≠ n) (hx : x.1.1 = n) : getR n (p ++ [x]) = x.1.2 := by
  induction p with
  | nil => show (if x.1.1 = n then x.1.2 else getR n []) = _; rw [if_pos hx]
  | cons y t ih =>
    show (if y.1.1 = n then y.1.2 else getR n (t ++ [x])) = _
    rw [if_neg (hp y List.mem_cons_self)]
    exact ih (fun z hz => hp z (List.mem_cons_of_mem _ hz))
theorem get_pre (n : List UInt8) (p : List SLab) (x : SLab) (zs : List SLab) (hp : ∀ y ∈ p, y.1.1 ≠ n) (hx : x.1.1 = n) (h : p ++ [x] <+: zs) : getR n (p ++ [x]) = getR n zs := by
  obtain ⟨t, rfl⟩ := h
  induction p with
  | nil =>
    show (if x.1.1 = n then x.1.2 else getR n []) = (if x.1.1 = n then x.1.2 else getR n t)
    rw [if_pos hx, if_pos hx]
  | cons y q ih =>
    show (if y.1.1 = n then y.1.2 else getR n (q ++ [x])) = (if y.1.1 = n then y.1.2 else getR n (q ++ [x] ++ t))
    rw [if_neg (hp y List.mem_cons_self), if_neg (hp y List.mem_cons_self)]
    exact ih (fun z hz => hp z (List.mem_cons_of_mem _ hz))
theorem get_none (n : List UInt8) : ∀ zs : List SLab, (∀ y ∈ zs, y.1.1 ≠ n) → getR n zs = [] := by
  intro zs
  induction zs with
  | nil => intro _; rfl
  | cons y t ih =>
    intro h
    show (if y.1.1 = n then y.1.2 else getR n t) = _
    rw [if_neg (h y List.mem_cons_self)]
    exact ih (fun z hz => h z (List.mem_cons_of_mem _ hz))
set_option maxHeartbeats 4000000 in
theorem get_any (a : Option Addr) (len cap : Nat) (zs : List SLab) (hreach : zs.length ≤ 100) (n : List UInt8) (w : World) (hI : Labs w.heap.size w (.slice a len cap) zs) :
    Calls Tryd.prog 25 #[.slice a len cap, .string ⟨n.toArray⟩] w fun e w' => e = .returned (.string ⟨(getR n zs).toArray⟩) ∧ Below w.heap.size w w' := by
  refine (callsIn_wide (n := 9)).1 ?_
  refine callsIn_of_wp_marks Tryd.func25 rfl trivial ?_ rfl
  simp only [Tryd.ntmps25, List.size_toArray, List.length_cons, List.length_nil, Nat.reduceAdd, Nat.reduceSub, Array.replicate_succ, Array.replicate_zero, List.push_toArray, List.append_toArray, List.nil_append, List.cons_append]
  gi_wp2
  refine ⟨trivial, (values_in Fence.wide 8 trivial rfl _ _ _ _).mono ?_⟩
  rintro e w1 ⟨rfl, rfl⟩
  gi_wp2
  obtain ⟨W0, hW0⟩ : ∃ W0, (((w.alloc (.cells #[.string ⟨n.toArray⟩] 9)).alloc (.cells #[.string ⟨#[]⟩] 9)).alloc (.cells #[.slice a len cap] 23)) = W0 := ⟨_, rfl⟩
  have hlp : Below w.heap.size w W0 := by rw [← hW0]; go_grown
  have hsz : W0.heap.size = w.heap.size + 3 := by rw [← hW0]; simp
  have bn0 : Boxed W0 w.heap.size 9 (.string ⟨n.toArray⟩) := by
    rw [← hW0]
    exact ((Boxed.new w 9 (.string ⟨n.toArray⟩)).alloc _).alloc _
  have br0 : Boxed W0 (w.heap.size + 1) 9 (.string ⟨#[]⟩) := by
    rw [← hW0]
    have h := Boxed.new (w.alloc (.cells #[.string ⟨n.toArray⟩] 9)) 9 (.string ⟨#[]⟩)
    rw [World.size_alloc] at h
    exact h.alloc _
  have bs0 : W0.cell? ⟨w.heap.size + 1 + 1, 0, none⟩ = some (.slice a len cap) := by
    rw [← hW0]
    have h := cell_one_new ((w.alloc (.cells #[.string ⟨n.toArray⟩] 9)).alloc (.cells #[.string ⟨#[]⟩] 9)) (.slice a len cap) 23 0 _ rfl
    simpa [Addr.add] using h
  have hI0 := hI.below hlp
  rw [hW0]
  clear hW0 hI
  refine wpIn_rangeFunc_ownH (F := Fence.wide) (n := 9) rfl (by omega) (gf := 54) (lb := #[.pointer (some ⟨w.heap.size + 1 + 1, 0, none⟩)]) rfl trivial (enters_of Tryd.func54 (by kernel_rfl) rfl)
    (encs := fun x => #[labV x.1]) (Kp := Below w.heap.size) (values_stops Fence.wide (9 - 1) trivial rfl (by omega) (w.heap.size + 1 + 1) w.heap.size (.slice a len cap) zs (by omega) W0 (by omega) (by omega) bs0 hI0) belowK_t (belowK_b (by omega)) (Below.refl _ _) (fun _ => rfl)
    (fun pre W => (∀ x ∈ pre, x.1.1 ≠ n) ∧ Boxed W w.heap.size 9 (.string ⟨n.toArray⟩) ∧ Boxed W (w.heap.size + 1) 9 (.string ⟨#[]⟩) ∧ Below w.heap.size w W)
    (fun c pre W => (c = .ret ∧ ∃ p x, pre = p ++ [x] ∧ (∀ y ∈ p, y.1.1 ≠ n) ∧ x.1.1 = n) ∧ Boxed W (w.heap.size + 1) 9 (.string ⟨(getR n pre).toArray⟩) ∧ Below w.heap.size w W)
    (OwnFrom.and (ownFrom_pure _ _) (OwnFrom.and (Own.from (boxed_own w.heap.size 9 (fun _ => .string ⟨n.toArray⟩)) _) (OwnFrom.and (Own.from (boxed_own (w.heap.size + 1) 9 (fun _ => .string ⟨#[]⟩)) _) (ownFrom_below (Nat.le_refl _) (by rw [hsz]; omega)))))
    (fun c => OwnFrom.and (ownFrom_pure _ _) (OwnFrom.and (Own.from (boxed_own (w.heap.size + 1) 9 (fun pre => .string ⟨(getR n pre).toArray⟩)) _) (ownFrom_below (Nat.le_refl _) (by rw [hsz]; omega))))
    ⟨(fun x hx => absurd hx (by simp)), bn0, br0, hlp⟩
    (fun x a' W => ∃ Bx, w.heap.size + 1 < Bx ∧ Blk W Bx #[.string ⟨x.1.1.toArray⟩, .string ⟨x.1.2.toArray⟩] 55 ∧ a' = { tmps := #[.slice a len cap, .string ⟨n.toArray⟩, undef, .pointer (some ⟨w.heap.size, 0, none⟩), .pointer (some ⟨w.heap.size + 1, 0, none⟩), .pointer (some ⟨Bx, 0, none⟩), .slice a len cap, .func (.func 54) #[] #[.pointer (some ⟨w.heap.size + 1 + 1, 0, none⟩)], .agg #[.string ⟨x.1.1.toArray⟩, .string ⟨x.1.2.toArray⟩], undef, undef, undef, undef, undef, undef], defers := [] })
    (fun x a' => ?ax) ?assign ?body ?done ?stop
  case ax => exact fun s X Y row ⟨Bx, q1, q2, q3⟩ hg hr => ⟨Bx, q1, (blk_own (β := Unit) Bx _ _).from _ () X Y row q2 hg hr, q3⟩
  case assign =>
    rintro l pre x W K ⟨hp, hn, hr0, hB⟩ hK
    simp only [labV]
    have hWs : w.heap.size + 1 < W.heap.size := hr0.lt
    gi_wp2
    exact hK _ _ ((KeepsOthers.alloc _ _).from _) ((Below.refl _ W).alloc (by omega) _) ⟨hp, hn.alloc _, hr0.alloc _, below_new hB _⟩ ⟨W.heap.size, hWs, heap_alloc_new W _, rfl⟩
  case body =>
    rintro l pre x a' W hl ⟨r, hr⟩ ⟨hp, hn, hr0, hB⟩ ⟨Bx, hBx, bX, rfl⟩ hlen
    obtain ⟨⟨xn, xv⟩, hx⟩ := x
    dsimp only at bX
    have c3 := hn.cell
    have c4 := hr0.cell
    have f4 := hr0.frozen
    have cx0 : W.cell? ⟨Bx, 0, none⟩ = some (.string ⟨xn.toArray⟩) := by simp [World.cell?, show W.heap[Bx]? = _ from bX]
    have cx1 : W.cell? ⟨Bx, 1, none⟩ = some (.string ⟨xv.toArray⟩) := by simp [World.cell?, show W.heap[Bx]? = _ from bX]
    have ea : (⟨xn.toArray⟩ : ByteArray).toList = xn := by rw [ByteArray.toList_eq]
    have eb : (⟨n.toArray⟩ : ByteArray).toList = n := by rw [ByteArray.toList_eq]
    by_cases he : xn = n
    · have e1 : (xn == n) = true := by rw [beq_iff_eq]; exact he
      have HE := Lib.hid he
      have HP := Lib.hid hp
      clear he hp
      gi_wp2
      refine ⟨(KeepsOthers.setCell _ _ _).from _, ⟨rfl, pre, _, rfl, HP.out, HE.out⟩, ?_, hB.setCell (by show w.heap.size ≤ w.heap.size + 1; omega) _⟩
      rw [get_hit n pre ⟨(xn, xv), hx⟩ HP.out HE.out]
      exact hr0.set _
    · have e1 : (xn == n) = false := by rw [beq_eq_false_iff_ne]; exact he
      have HE := Lib.hid he
      have HP := Lib.hid hp
      clear he hp
      gi_wp2
      exact ⟨(KeepsOthers.refl _).from _, Below.refl _ _, fun y hy => by
        rcases List.mem_append.1 hy with h | h
        · exact HP.out y h
        · rw [List.mem_singleton.1 h]; exact HE.out, hn, hr0, hB⟩
  case done =>
    rintro D ys W hD rfl ⟨hp, hn, hr0, hB⟩ hK
    have c4 := hr0.cell
    have f4 := hr0.frozen
    have HP := Lib.hid hp
    clear hp
    gi_wp2
    have hr1 := hr0.set (.string ⟨#[]⟩)
    have hK' := (KeepsOthers.setCell W ⟨w.heap.size + 1, 0, none⟩ (.string ⟨#[]⟩)).same D _ hK rfl
    refine ⟨by simp, .inl ⟨_, _, rfl, run_takeDeferred hK', ?_⟩⟩
    have hc5 := cell_kept hr1.cell (grownBy_putObj' _ D (.deferred none)) (fun r e => by cases e; exact ⟨_, hK', rfl⟩)
    refine ⟨.string ⟨#[]⟩, by simp [results, Tryd.f25, go_sem, hc5], by rw [get_none n ys HP.out], (hB.setCell (p := ⟨w.heap.size + 1, 0, none⟩) (by simp) _).trans (belowK_b (w := w) (Nat.le_refl _) _ D _ _ (by rw [hsz] at hD; omega) hK' rfl rfl)⟩
  case stop =>
    rintro D c pre W hD hpre ⟨⟨rfl, p, x, rfl, hp, hx⟩, hr0, hB⟩ hK
    have c4 := hr0.cell
    gi_wp2
    refine ⟨by simp, .inl ⟨_, _, rfl, run_takeDeferred hK, ?_⟩⟩
    have hc5 := cell_kept c4 (grownBy_putObj' _ D (.deferred none)) (fun r e => by cases e; exact ⟨_, hK, rfl⟩)
    refine ⟨.string ⟨(getR n (p ++ [x])).toArray⟩, by simp [results, Tryd.f25, go_sem, hc5], ?_, hB.trans (belowK_b (w := w) (Nat.le_refl _) W D _ _ (by rw [hsz] at hD; omega) hK rfl rfl)⟩
    rw [get_pre n p x zs hp hx hpre]
end Go.Proofs.YtmcmgmpgmbljiaaDoor
