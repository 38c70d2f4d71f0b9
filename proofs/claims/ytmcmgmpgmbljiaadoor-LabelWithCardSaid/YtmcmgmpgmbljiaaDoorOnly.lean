/- slices.AppendSeq, slices.Collect of labels; label.Only, label.Without. -/
import Derived.Test.YtmcmgmpgmbljiaaDoorPicked
import Derived.Test.YtmcmgmpgmbljiaaDoorParse
namespace Go.Proofs.YtmcmgmpgmbljiaaDoor
open Go Go.Proofs Go.RowKit Go.Shelf
set_option maxRecDepth 100000
attribute [local go_sem] Oper.semAt_some
theorem row_at2 {w : World} {base e k n : Nat} {v : Value} {xs : List Value} (h : w.ownsRow base e k v n xs) : ∀ i, v.ownBlock = some i → ∃ c fz, w.heap[i]? = some (.cells c e fz) := by
  intro i e'
  rcases h.2 with ⟨rfl, _⟩ | ⟨gg, cap, cur, rfl, hb, hgb, _⟩
  · simp [Value.ownBlock] at e'
  · obtain rfl : gg = i := by simpa [Value.ownBlock] using e'
    exact ⟨_, _, hgb⟩
theorem row_base {W : World} {base base' : Nat} {e : TypeId} {size : Nat} {v : Value} {k : Nat} {xs : List Value} (h : W.ownsRow base e size v k xs) (hb : base' ≤ base) : W.ownsRow base' e size v k xs := by
  obtain ⟨h1, h2 | ⟨g, cap, cur, e1, e2, r⟩⟩ := h
  · exact ⟨h1, .inl h2⟩
  · exact ⟨h1, .inr ⟨g, cap, cur, e1, Nat.le_trans hb e2, r⟩⟩
/-- a slice of labels in memory of the call's own -/
def NewLabs (w : World) (zs : List SLab) (e : Ending) (w' : World) : Prop := ∃ v, e = .returned v ∧ w'.ownsRow w.heap.size 55 2 v zs.length (labC zs) ∧ Below w.heap.size w w'
set_option maxHeartbeats 4000000 in
theorem appendSeq_in (g : Nat) (lb : Array Value) (eg : ∀ args w, (callFunc g args).run Tryd.prog w = .ok (.enter g args) w) (zs : List SLab) (Sp : List SLab → Prop) (N : Nat) (hN : N ≤ 1000) (w : World)
    (hseq : SeqStopsJ 55 Fence.wide 8 Tryd.prog g lb (fun x : SLab => #[labV x.1]) w.heap.size (fun ys => ys = zs) Sp N w) :
    CallsIn Fence.wide 9 Tryd.prog 60 #[.slice none 0 0, .func (.func g) #[] lb] w (NewLabs w zs) := by
  obtain ⟨i0, hi, hz0, hz1, hz2⟩ := info_parts info_lab
  have HI := Lib.hid hi
  have HZ := Lib.hid hz0
  have HZ1 := Lib.hid hz1
  have HZ2 := Lib.hid hz2
  clear hi hz0 hz1 hz2
  refine callsIn_of_wp_marks Tryd.func60 rfl trivial ?_ rfl
  simp only [Tryd.ntmps60, List.size_toArray, List.length_cons, List.length_nil, Nat.reduceAdd, Nat.reduceSub, Array.replicate_succ, Array.replicate_zero, List.push_toArray, List.append_toArray, List.nil_append, List.cons_append]
  gi_wp2
  obtain ⟨W0, hW0⟩ : ∃ W0, (w.alloc (.cells #[.slice none 0 0] 22)) = W0 := ⟨_, rfl⟩
  have hlp : Below w.heap.size w W0 := by rw [← hW0]; go_grown
  have hsz : W0.heap.size = w.heap.size + 1 := by rw [← hW0]; simp
  have bv0 : Boxed W0 w.heap.size 22 (.slice none 0 0) := by
    rw [← hW0]
    exact Boxed.new w 22 (.slice none 0 0)
  rw [hW0]
  clear hW0
  refine rangeJ 55 (F := Fence.wide) (n := 9) rfl (by omega) (gf := g) (lb := lb) rfl trivial eg (n₀ := w.heap.size) hseq (by omega) hlp (fun _ => rfl)
    (fun pre W => (∃ v, Boxed W w.heap.size 22 v ∧ W.ownsRow w.heap.size 55 2 v pre.length (labC pre) ∧ True) ∧ Below w.heap.size w W)
    (fun _ _ _ => False)
    (OwnFrom.and (Own.from (holdsRow_own w.heap.size w.heap.size 22 55 2 (fun (pre : List SLab) => pre.length) (fun (pre : List SLab) => labC pre) (fun _ _ => True)) _) (ownFrom_below (Nat.le_refl _) (by rw [hsz]; omega)))
    (fun _ _ _ _ _ hs _ _ => hs)
    ⟨⟨_, bv0, World.ownsRow_nil _ _ _ _, trivial⟩, hlp⟩
    (fun x a' W => ∃ Bx, w.heap.size < Bx ∧ Blk W Bx #[.string ⟨x.1.1.toArray⟩, .string ⟨x.1.2.toArray⟩] 55 ∧ a' = { tmps := #[.slice none 0 0, .func (.func g) #[] lb, .pointer (some ⟨w.heap.size, 0, none⟩), undef, .slice none 0 0, .pointer (some ⟨Bx, 0, none⟩), .func (.func g) #[] lb, .agg #[.string ⟨x.1.1.toArray⟩, .string ⟨x.1.2.toArray⟩], undef, undef, undef, undef, undef], defers := [] })
    (fun x a' => ?ax) ?assign ?body ?done ?stop
  case ax => exact fun s X Y row ⟨Bx, q1, q2, q3⟩ hg hr => ⟨Bx, q1, (blk_own (β := Unit) Bx _ _).from _ () X Y row q2 hg hr, q3⟩
  case assign =>
    rintro l pre x W K ⟨⟨v, hv, hrow, _⟩, hB⟩ hK
    simp only [labV]
    have hWs : w.heap.size < W.heap.size := hv.lt
    have HR := Lib.hid hrow
    clear hrow
    gi_wp2
    exact hK _ _ (KeepsT.alloc _ _ _ _) ((Below.refl _ W).alloc (by omega) _) ⟨⟨v, hv.alloc _, HR.out.alloc _, trivial⟩, below_new hB _⟩ ⟨W.heap.size, hWs, heap_alloc_new W _, rfl⟩
  case body =>
    rintro l pre x a' W hl ⟨r, hr⟩ ⟨⟨v, hv, hrow, _⟩, hB⟩ ⟨Bx, hBx, bX, rfl⟩ hlen
    obtain ⟨⟨xn, xv⟩, hx⟩ := x
    dsimp only at bX
    have HR := Lib.hid hrow
    clear hrow
    have hv3 := hv.cell
    have cx0 := blk_cell (j := 0) bX rfl
    have cx1 := blk_cell (j := 1) bX rfl
    gi_wp2_with (gi_at_builtin; refine wpListIn_append_own _ rfl _ _ 22 rfl w.heap.size 55 i0 (.agg #[.string ⟨#[]⟩, .string ⟨#[]⟩]) 2 32 Tryd.underlying22 HI.out HZ.out HZ1.out HZ2.out rfl (by decide) _ _ _ rfl (HR.out.alloc _) ⟨W.heap.size, 0, none⟩ 1 1 [.string ⟨xn.toArray⟩, .string ⟨xv.toArray⟩] rfl rfl (cells2_new _ _ _ _) ?k1 ?k2 ?k3 ?k4 ?_)
    case k1 => intro u hu; simp at hu; rcases hu with rfl | rfl <;> rfl
    case k2 => unfold maxLen; omega
    case k3 => omega
    case k4 => have := hB.size; simp; omega
    intro v' w1 hown' hgrow _
    obtain ⟨g', cap', rfl⟩ := ownsRow_succ hown'
    obtain ⟨hv1, hv2, hr2, hk2, hb2⟩ := hv.appended (by decide) HR.out hB.size (by omega) hown' hgrow
    have kt : KeepsT 55 W0.heap.size W (w1.setCell ⟨w.heap.size, 0, none⟩ (.slice (some ⟨g', 0, none⟩) (pre.length + 1) cap')) :=
      ((KeepsT.alloc _ _ _ _).trans (KeepsT.grown hgrow (row_at2 (HR.out.alloc _)))).trans (KeepsT.setCell _ (by omega))
    have hc1 := hv1.cell
    have hf1 := hv1.frozen
    have HR2 := Lib.hid hr2
    clear hown' hgrow hr2 hv1
    gi_wp2
    refine ⟨kt, hb2, ⟨_, hv2, ?_, trivial⟩, hB.trans hb2⟩
    have := HR2.out
    rw [List.length_append]
    simpa [labC_snoc] using this
  case done =>
    rintro D ys W hD rfl ⟨⟨v, hv, hrow, _⟩, hB⟩ hK
    have hv3 := hv.cell
    have HR := Lib.hid hrow
    clear hrow
    gi_wp2
    refine ⟨by simp, .inl ⟨_, _, rfl, run_takeDeferred hK, ?_⟩⟩
    exact ⟨_, results_tmp rfl _ _ _, _, rfl, ownsRow_putObj HR.out _ hK rfl, hB.trans (belowK_b (w := w) (Nat.le_refl _) _ D _ _ (by rw [hsz] at hD; omega) hK rfl rfl)⟩
  case stop =>
    rintro D c pre W _ _ h _
    exact h.elim
theorem collect_in (g : Nat) (lb : Array Value) (eg : ∀ args w, (callFunc g args).run Tryd.prog w = .ok (.enter g args) w) (zs : List SLab) (Sp : List SLab → Prop) (N : Nat) (hN : N ≤ 1000) (w : World)
    (hseq : SeqStopsJ 55 Fence.wide 8 Tryd.prog g lb (fun x : SLab => #[labV x.1]) w.heap.size (fun ys => ys = zs) Sp N w) :
    Calls Tryd.prog 44 #[.func (.func g) #[] lb] w (NewLabs w zs) := by
  have H := Lib.hid ((callsIn_wide (n := 9)).1 (appendSeq_in g lb eg zs Sp N hN w hseq))
  clear hseq
  go_enter Tryd.func44, Tryd.ntmps44
  go_wp2_with fail
  refine (H.out).mono ?_
  rintro e w1 ⟨v, rfl, hr, hb⟩
  have HR := Lib.hid hr
  clear hr
  go_wp2
  go_ret
  exact ⟨_, rfl, HR.out, hb⟩
theorem picked_any (a na : Option Addr) (len cap nl nc : Nat) (among : Bool) (w : World) :
    Calls Tryd.prog 45 #[.slice a len cap, .slice na nl nc, .bool among] w fun e w' =>
      e = .returned (.func (.func 61) #[] #[.pointer (some ⟨w.heap.size, 0, none⟩), .pointer (some ⟨w.heap.size + 1, 0, none⟩), .pointer (some ⟨w.heap.size + 1 + 1, 0, none⟩)]) ∧
      w' = ((w.alloc (.cells #[.slice a len cap] 23)).alloc (.cells #[.slice na nl nc] 44)).alloc (.cells #[.bool among] 4) := by
  go_enter Tryd.func45, Tryd.ntmps45
  go_wp2
  go_ret
  exact ⟨rfl, rfl⟩
/-- what picked hands back comes to the labels that are kept -/
theorem pick_collect (a na : Option Addr) (len cap nl nc : Nat) (among : Bool) (ns : List (List UInt8)) (zs : List SLab) (hreach : zs.length ≤ 100) (w : World) (hI : Labs w.heap.size w (.slice a len cap) zs) (hN : Names w.heap.size w (.slice na nl nc) ns) :
    ∀ w1, w1 = ((w.alloc (.cells #[.slice a len cap] 23)).alloc (.cells #[.slice na nl nc] 44)).alloc (.cells #[.bool among] 4) →
    Calls Tryd.prog 44 #[.func (.func 61) #[] #[.pointer (some ⟨w.heap.size, 0, none⟩), .pointer (some ⟨w.heap.size + 1, 0, none⟩), .pointer (some ⟨w.heap.size + 1 + 1, 0, none⟩)]] w1 (NewLabs w1 (zs.filter (keepB ns among))) := by
  intro w1 hw1
  have hb : Below w.heap.size w w1 := by rw [hw1]; go_grown
  have hs : w1.heap.size = w.heap.size + 3 := by rw [hw1]; simp
  refine collect_in _ _ (enters_of Tryd.func61 (by kernel_rfl) rfl) _ (fun pre => pre <+: zs.filter (keepB ns among)) zs.length (by omega) w1 ?_
  refine picked_stops _ _ _ w1.heap.size (.slice a len cap) (.slice na nl nc) among ns zs (by omega) w1 (Nat.le_refl _) (by omega) (by omega) (by omega) ?_ ?_ ?_ ?_ ?_
  · have h0 := Boxed.new w 23 (.slice a len cap)
    rw [hw1]; exact ((h0.alloc _).alloc _).cell
  · have h0 := Boxed.new (w.alloc (.cells #[.slice a len cap] 23)) 44 (.slice na nl nc)
    rw [World.size_alloc] at h0
    rw [hw1]; exact (h0.alloc _).cell
  · have h0 := Boxed.new ((w.alloc (.cells #[.slice a len cap] 23)).alloc (.cells #[.slice na nl nc] 44)) 4 (.bool among)
    rw [World.size_alloc, World.size_alloc] at h0
    rw [hw1]; exact h0.cell
  · rcases hI.below hb with h | ⟨b, off, c, e, h1, h2⟩
    · exact .inl h
    · exact .inr ⟨b, off, c, e, by omega, h2⟩
  · rcases hN.below hb with h | ⟨b, off, c, e, h1, h2⟩
    · exact .inl h
    · exact .inr ⟨b, off, c, e, by omega, h2⟩
theorem only_any (a na : Option Addr) (len cap nl nc : Nat) (ns : List (List UInt8)) (zs : List SLab) (hreach : zs.length ≤ 100) (w : World) (hI : Labs w.heap.size w (.slice a len cap) zs) (hN : Names w.heap.size w (.slice na nl nc) ns) :
    Calls Tryd.prog 27 #[.slice a len cap, .slice na nl nc] w (NewLabs w (zs.filter (keepB ns true))) := by
  have HP := Lib.hid (picked_any a na len cap nl nc true w)
  have HC := Lib.hid (pick_collect a na len cap nl nc true ns zs hreach w hI hN)
  clear hI hN
  go_enter Tryd.func27, Tryd.ntmps27
  go_wp2_with fail
  refine (HP.out).mono ?_
  rintro e w1 ⟨rfl, hw1⟩
  have HC1 := Lib.hid (HC.out w1 hw1)
  have hb : Below w.heap.size w w1 := by rw [hw1]; go_grown
  clear hw1 HC HP
  go_wp2_with fail
  refine (HC1.out).mono ?_
  rintro e w2 ⟨v, rfl, hr, hb2⟩
  have HR := Lib.hid hr
  clear hr
  go_wp2
  go_ret
  exact ⟨_, rfl, row_base HR.out hb.size, hb.trans (hb2.mono hb.size)⟩
theorem without_any (a na : Option Addr) (len cap nl nc : Nat) (ns : List (List UInt8)) (zs : List SLab) (hreach : zs.length ≤ 100) (w : World) (hI : Labs w.heap.size w (.slice a len cap) zs) (hN : Names w.heap.size w (.slice na nl nc) ns) :
    Calls Tryd.prog 29 #[.slice a len cap, .slice na nl nc] w (NewLabs w (zs.filter (keepB ns false))) := by
  have HP := Lib.hid (picked_any a na len cap nl nc false w)
  have HC := Lib.hid (pick_collect a na len cap nl nc false ns zs hreach w hI hN)
  clear hI hN
  go_enter Tryd.func29, Tryd.ntmps29
  go_wp2_with fail
  refine (HP.out).mono ?_
  rintro e w1 ⟨rfl, hw1⟩
  have HC1 := Lib.hid (HC.out w1 hw1)
  have hb : Below w.heap.size w w1 := by rw [hw1]; go_grown
  clear hw1 HC HP
  go_wp2_with fail
  refine (HC1.out).mono ?_
  rintro e w2 ⟨v, rfl, hr, hb2⟩
  have HR := Lib.hid hr
  clear hr
  go_wp2
  go_ret
  exact ⟨_, rfl, row_base HR.out hb.size, hb.trans (hb2.mono hb.size)⟩
end Go.Proofs.YtmcmgmpgmbljiaaDoor
