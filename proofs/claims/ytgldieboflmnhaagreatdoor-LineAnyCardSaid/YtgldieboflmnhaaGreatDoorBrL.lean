/- braces.longest: the longest of the words that a text begins with. -/
import Derived.Test.YtgldieboflmnhaaGreatDoorBrB
namespace Go.Proofs.YtgldieboflmnhaaGreatDoor
open Go Go.Proofs Go.RowKit Go.Shelf
set_option maxRecDepth 100000
attribute [local go_sem] Oper.semAt_some
/-- a text that is not long -/
abbrev STx := { x : List UInt8 // x.length ≤ 100000 }
set_option maxHeartbeats 4000000 in
theorem tvalues1_in (F : Fence) (n : Nat) (hf : F.fn 127) (hro : F.round = none) (hn : 1 ≤ n) (l Bs n₀ b off cap : Nat) (zs : List STx) (hreach : zs.length ≤ 1000000) (hb : b < n₀) (J Jx : List STx → World → Prop)
    (hJa : ∀ pre W o, J pre W → J pre (W.alloc o))
    (hY : ∀ pre x W, J pre W → pre.length < zs.length → YieldAt F (n - 1) Tryz.prog l #[.string ⟨x.1.toArray⟩] W fun e W' =>
      (e = .returned (.bool true) ∧ J (pre ++ [x]) W' ∧ Below n₀ W W') ∨ (e = .returned (.bool false) ∧ Jx (pre ++ [x]) W'))
    (W : World) (hn0 : n₀ ≤ W.heap.size) (hBs : W.cell? ⟨Bs, 0, none⟩ = some (.slice (some ⟨b, off, none⟩) zs.length cap))
    (hc : ∀ j x, zs[j]? = some x → W.cell? ⟨b, off + j, none⟩ = some (.string ⟨x.1.toArray⟩)) (h0 : J [] W) :
    CallsIn F n Tryz.prog 127 #[.func (.yield l) #[] #[], .pointer (some ⟨Bs, 0, none⟩)] W fun e W' => (∃ v, e = .returned v) ∧
      ((∃ ys, ys = zs ∧ J ys W') ∨ (∃ pre, pre <+: zs ∧ Jx pre W')) := by
  refine callsIn_of_wp Tryz.func127 rfl hf ?_ hro
  simp only [Tryz.ntmps127, List.size_toArray, List.length_cons, List.length_nil, Nat.reduceAdd, Nat.reduceSub, Array.replicate_succ, Array.replicate_zero, List.push_toArray, List.append_toArray, List.nil_append, List.cons_append]
  gi_wp2
  gi_loopw [7] (fun i wr => ∃ k : Nat, k ≤ zs.length ∧ i = .int .i64 (k : Int) ∧ J (zs.take k) wr ∧ Below n₀ W wr ∧ n₀ ≤ wr.heap.size)
    (fun i _ => zs.length - (intOf i).toNat)
  case atStart => exact ⟨0, Nat.zero_le _, rfl, h0, Below.refl _ _, hn0⟩
  case round =>
    obtain ⟨k, hk, rfl, hJs, hnx, hge⟩ := hrel
    by_cases hlt : k < zs.length
    · obtain ⟨x, hx⟩ : ∃ x, zs[k]? = some x := ⟨_, List.getElem?_eq_getElem hlt⟩
      obtain ⟨hn1, he1⟩ := List.getElem?_eq_some_iff.1 hx
      have htk : zs.take (k + 1) = zs.take k ++ [x] := by rw [List.take_succ_eq_append_getElem hn1, he1]
      have c0 := (hnx.cell (p := ⟨b, off + k, none⟩) hb).trans (hc k x hx)
      obtain ⟨fn, tmps, assign, body, hy, hR⟩ := hY _ x _ hJs (by rw [List.length_take]; omega)
      have h1 : (0 : Int) ≤ (k : Int) := by omega
      have h2 : (k : Int) < (zs.length : Int) := by omega
      have TK := Lib.hid htk
      clear htk hx he1
      gi_wp2
      refine hR.mono ?_
      rintro e W3 (⟨rfl, hJ3, hk3⟩ | ⟨rfl, hJx3⟩)
      · gi_wp2
        go_roundw
        case rel => exact ⟨k + 1, by omega, by simp, by rw [TK.out]; exact hJ3, hnx.trans hk3, Nat.le_trans hge hk3.size⟩
        case measure => simp [intOf]; omega
      · gi_wp2
        refine bodyPost_ret (results_none rfl _ _ _) rfl ?_
        exact ⟨⟨_, rfl⟩, .inr ⟨_, by rw [← TK.out]; exact List.take_prefix _ _, hJx3⟩⟩
    · obtain rfl : k = zs.length := by omega
      gi_wp2
      go_end0
      rw [List.take_length] at hJs
      exact ⟨⟨_, rfl⟩, .inl ⟨_, rfl, hJs⟩⟩
theorem tvalues1_nil_in (F : Fence) (n : Nat) (hf : F.fn 127) (hro : F.round = none) (l Bs : Nat) (J : List STx → World → Prop) (a : Option Addr) (c : Nat) (W : World) (hBs : W.cell? ⟨Bs, 0, none⟩ = some (.slice a 0 c)) (h0 : J [] W) :
    CallsIn F n Tryz.prog 127 #[.func (.yield l) #[] #[], .pointer (some ⟨Bs, 0, none⟩)] W fun e W' => (∃ v, e = .returned v) ∧ J [] W' := by
  refine callsIn_of_wp Tryz.func127 rfl hf ?_ hro
  simp only [Tryz.ntmps127, List.size_toArray, List.length_cons, List.length_nil, Nat.reduceAdd, Nat.reduceSub, Array.replicate_succ, Array.replicate_zero, List.push_toArray, List.append_toArray, List.nil_append, List.cons_append]
  gi_wp2
  gi_loopw [7] (fun i wr => i = .int .i64 0 ∧ J [] wr) (fun _ _ => 0)
  case atStart => exact ⟨rfl, h0⟩
  case round =>
    obtain ⟨rfl, hJs⟩ := hrel
    gi_wp2
    go_end0
    exact ⟨⟨_, rfl⟩, hJs⟩
/-- slices.Values(s): the slice value is boxed; the function value captures the box -/
theorem tvalues_in (F : Fence) (n : Nat) (hf : F.fn 119) (hro : F.round = none) (a : Option Addr) (len cap : Nat) (w : World) :
    CallsIn F n Tryz.prog 119 #[.slice a len cap] w fun e w' => e = .returned (.func (.func 127) #[] #[.pointer (some ⟨w.heap.size, 0, none⟩)]) ∧ w' = w.alloc (.cells #[.slice a len cap] 112) := by
  refine callsIn_of_wp Tryz.func119 rfl hf ?_ hro
  simp only [Tryz.ntmps119, List.size_toArray, List.length_cons, List.length_nil, Nat.reduceAdd, Nat.reduceSub, Array.replicate_succ, Array.replicate_zero, List.push_toArray, List.append_toArray, List.nil_append, List.cons_append]
  gi_wp2
  go_ret
  exact ⟨rfl, rfl⟩
/-- all of zs, in order; or a prefix -/
theorem tvalues_stops (F : Fence) (n : Nat) (hf : F.fn 127) (hro : F.round = none) (hn : 1 ≤ n) (Bs n₀ : Nat) (sv : Value) (zs : List STx) (w : World) (hBs : Bs < w.heap.size) (hn₀ : n₀ ≤ w.heap.size)
    (hc : w.cell? ⟨Bs, 0, none⟩ = some sv) (hI : TxAt n₀ w sv (zs.map (·.1))) :
    SeqStopsK F n Tryz.prog 127 #[.pointer (some ⟨Bs, 0, none⟩)] (fun x : STx => #[.string ⟨x.1.toArray⟩]) (Below n₀) (fun ys => ys = zs) (fun pre => pre <+: zs) zs.length w := fun l J Jx W hW hJ _ hY h0 => by
  have hc' := (hW.cell (p := ⟨Bs, 0, none⟩) hBs).trans hc
  obtain ⟨hl, b, off, cap, rfl, hb, hcs⟩ := hI.below (hW.mono hn₀)
  rw [List.length_map] at hl hc'
  exact (tvalues1_in F n hf hro hn l Bs n₀ b off cap zs (by omega) hb J Jx (fun pre W1 o h => hJ pre W1 (W1.alloc o) none h (World.grownBy_alloc _ _ none) (fun r e => by cases e)) hY W (Nat.le_trans hn₀ hW.size) hc' (fun j x hj => hcs j x.1 (by rw [List.getElem?_map, hj]; rfl)) h0).mono fun e W' h => h
theorem fold_snoc (s : List UInt8) (pre : List STx) (x : STx) : ((pre ++ [x]).map (·.1)).foldl (longF s) [] = longF s ((pre.map (·.1)).foldl (longF s) []) x.1 := by rw [List.map_append, List.foldl_append]; rfl
theorem fold_short (s : List UInt8) (pre : List STx) : ((pre.map (·.1)).foldl (longF s) []).length ≤ 100000 := by
  have key : ∀ (p : List STx) (f : List UInt8), f.length ≤ 100000 → ((p.map (·.1)).foldl (longF s) f).length ≤ 100000 := by
    intro p
    induction p with
    | nil => intro f h; exact h
    | cons x t ih =>
      intro f h
      rw [List.map_cons, List.foldl_cons]
      refine ih _ ?_
      unfold longF
      split
      · exact x.2
      · exact h
  exact key pre [] (by simp)
set_option maxHeartbeats 4000000 in
theorem longest_any (zs : List STx) (a : Option Addr) (len cap : Nat) (s : List UInt8) (hs : s.length ≤ 100000) (w : World) (hI : TxAt w.heap.size w (.slice a len cap) (zs.map (·.1))) :
    Calls Tryz.prog 102 #[.string ⟨s.toArray⟩, .slice a len cap] w fun e w' => e = .returned (.string ⟨(longR (zs.map (·.1)) s).toArray⟩) ∧ Below w.heap.size w w' := by
  refine (callsIn_wide (n := 9)).1 ?_
  refine callsIn_of_wp_marks Tryz.func102 rfl trivial ?_ rfl
  simp only [Tryz.ntmps102, List.size_toArray, List.length_cons, List.length_nil, Nat.reduceAdd, Nat.reduceSub, Array.replicate_succ, Array.replicate_zero, List.push_toArray, List.append_toArray, List.nil_append, List.cons_append]
  gi_wp2
  refine ⟨trivial, (tvalues_in Fence.wide 8 trivial rfl _ _ _ _).mono ?_⟩
  rintro e w1 ⟨rfl, rfl⟩
  gi_wp2
  obtain ⟨W0, hW0⟩ : ∃ W0, (((w.alloc (.cells #[.string ⟨s.toArray⟩] 9)).alloc (.cells #[.string ⟨#[]⟩] 9)).alloc (.cells #[.slice a len cap] 112)) = W0 := ⟨_, rfl⟩
  have hlp : Below w.heap.size w W0 := by rw [← hW0]; go_grown
  have hsz : W0.heap.size = w.heap.size + 3 := by rw [← hW0]; simp
  have bn0 : Boxed W0 w.heap.size 9 (.string ⟨s.toArray⟩) := by
    rw [← hW0]
    exact ((Boxed.new w 9 (.string ⟨s.toArray⟩)).alloc _).alloc _
  have br0 : Boxed W0 (w.heap.size + 1) 9 (.string ⟨#[]⟩) := by
    rw [← hW0]
    have h := Boxed.new (w.alloc (.cells #[.string ⟨s.toArray⟩] 9)) 9 (.string ⟨#[]⟩)
    rw [World.size_alloc] at h
    exact h.alloc _
  have bs0 : W0.cell? ⟨w.heap.size + 1 + 1, 0, none⟩ = some (.slice a len cap) := by
    rw [← hW0]
    have h := cell_one_new ((w.alloc (.cells #[.string ⟨s.toArray⟩] 9)).alloc (.cells #[.string ⟨#[]⟩] 9)) (.slice a len cap) 112 0 _ rfl
    simpa [Addr.add] using h
  have hI0 := hI.below hlp
  rw [hW0]
  clear hW0 hI
  refine wpIn_rangeFunc_ownH (F := Fence.wide) (n := 9) rfl (by omega) (gf := 127) (lb := #[.pointer (some ⟨w.heap.size + 1 + 1, 0, none⟩)]) rfl trivial (enters_of Tryz.func127 (by kernel_rfl) rfl)
    (encs := fun x : STx => #[.string ⟨x.1.toArray⟩]) (Kp := Below w.heap.size) (tvalues_stops Fence.wide (9 - 1) trivial rfl (by omega) (w.heap.size + 1 + 1) w.heap.size (.slice a len cap) zs W0 (by omega) (by omega) bs0 hI0) belowK_t (belowK_b (by omega)) (Below.refl _ _) (fun _ => rfl)
    (fun pre W => Boxed W w.heap.size 9 (.string ⟨s.toArray⟩) ∧ Boxed W (w.heap.size + 1) 9 (.string ⟨((pre.map (·.1)).foldl (longF s) []).toArray⟩) ∧ Below w.heap.size w W)
    (fun _ _ _ => False)
    (OwnFrom.and (Own.from (boxed_own w.heap.size 9 (fun _ => .string ⟨s.toArray⟩)) _) (OwnFrom.and (Own.from (boxed_own (w.heap.size + 1) 9 (fun (pre : List STx) => .string ⟨((pre.map (·.1)).foldl (longF s) []).toArray⟩)) _) (ownFrom_below (Nat.le_refl _) (by rw [hsz]; omega))))
    (fun _ _ _ _ _ hs _ _ => hs)
    ⟨bn0, br0, hlp⟩
    (fun x a' _ => a' = { tmps := #[.string ⟨s.toArray⟩, .slice a len cap, .pointer (some ⟨w.heap.size, 0, none⟩), undef, .string ⟨#[]⟩, .pointer (some ⟨w.heap.size + 1, 0, none⟩), .string ⟨x.1.toArray⟩, .slice a len cap, .func (.func 127) #[] #[.pointer (some ⟨w.heap.size + 1 + 1, 0, none⟩)], .string ⟨x.1.toArray⟩, undef, undef, undef, undef, undef, undef, undef, undef, undef, undef, undef, undef], defers := [] })
    (fun x a' => ?ax) ?assign ?body ?done ?stop
  case ax => exact fun s X Y row q hg hr => q
  case assign =>
    rintro l pre x W K ⟨hn, hr0, hB⟩ hK
    gi_wp2
    exact hK _ _ ((KeepsOthers.refl _).from _) (Below.refl _ _) ⟨hn, hr0, hB⟩ rfl
  case body =>
    rintro l pre x a' W hl ⟨r, hr⟩ ⟨hn, hr0, hB⟩ rfl hlen
    obtain ⟨xn, hx⟩ := x
    have c3 := hn.cell
    have c4 := hr0.cell
    have f4 := hr0.frozen
    have FS := Lib.hid (fold_snoc s pre ⟨xn, hx⟩)
    have hfl := fold_short s pre
    have HP := Lib.hid ((Tryz.strings_HasPrefix ⟨s.toArray⟩ ⟨xn.toArray⟩ W))
    have HN := Lib.hid hn
    have HR := Lib.hid hr0
    have HB := Lib.hid hB
    clear hn hr0 hB
    generalize (pre.map (·.1)).foldl (longF s) [] = f at *
    by_cases he : f.length < xn.length
    · have e1 : decide ((f.length : Int) < (xn.length : Int)) = true := decide_eq_true (by omega)
      have e2 : decide (f.length < xn.length) = true := decide_eq_true he
      cases hp : Lib.hasPrefix s xn with
      | true =>
        have HP2 : Hid (Calls Tryz.prog 118 #[.string ⟨s.toArray⟩, .string ⟨xn.toArray⟩] W fun e w' => e = .returned (.bool true) ∧ w' = W) := HP.out.mono fun _ _ h => ⟨by rw [h.1]; show Ending.returned (.bool (Lib.hasPrefix s xn)) = _; rw [hp], h.2⟩
        have LF : Hid (longF s f xn = xn) := if_pos ⟨he, hp⟩
        clear hp HP
        gi_wp2
        refine ⟨trivial, (CallsIn.inRound l (callsIn_wide.2 HP2.out)).mono ?_⟩
        rintro e w2 ⟨rfl, rfl⟩
        gi_wp2
        refine ⟨(KeepsOthers.setCell _ _ _).from _, (Below.refl _ _).setCell (by simp) _, HN.out.other (by omega) _, ?_, HB.out.setCell (by simp) _⟩
        rw [FS.out, LF.out]
        exact HR.out.set _
      | false =>
        have HP2 : Hid (Calls Tryz.prog 118 #[.string ⟨s.toArray⟩, .string ⟨xn.toArray⟩] W fun e w' => e = .returned (.bool false) ∧ w' = W) := HP.out.mono fun _ _ h => ⟨by rw [h.1]; show Ending.returned (.bool (Lib.hasPrefix s xn)) = _; rw [hp], h.2⟩
        have LF : Hid (longF s f xn = f) := if_neg (by rw [hp]; simp)
        clear hp HP
        gi_wp2
        refine ⟨trivial, (CallsIn.inRound l (callsIn_wide.2 HP2.out)).mono ?_⟩
        rintro e w2 ⟨rfl, rfl⟩
        gi_wp2
        exact ⟨(KeepsOthers.refl _).from _, Below.refl _ _, HN.out, by rw [FS.out, LF.out]; exact HR.out, HB.out⟩
    · have e1 : decide ((f.length : Int) < (xn.length : Int)) = false := decide_eq_false (by omega)
      have e2 : decide (f.length < xn.length) = false := decide_eq_false he
      have LF : Hid (longF s f xn = f) := if_neg (fun q => he q.1)
      clear HP
      gi_wp2
      refine ⟨trivial, ?_⟩
      gi_wp2
      exact ⟨(KeepsOthers.refl _).from _, Below.refl _ _, HN.out, by rw [FS.out, LF.out]; exact HR.out, HB.out⟩
  case done =>
    rintro D ys W hD rfl ⟨hn, hr0, hB⟩ hK
    have c4 := hr0.cell
    gi_wp2
    refine ⟨by simp, .inl ⟨_, _, rfl, run_takeDeferred hK, ?_⟩⟩
    exact ⟨.string ⟨((ys.map (·.1)).foldl (longF s) []).toArray⟩, by simp [results, Tryz.f102, go_sem], rfl, hB.trans (belowK_b (w := w) (Nat.le_refl _) W D _ _ (by rw [hsz] at hD; omega) hK rfl rfl)⟩
  case stop => exact fun D c pre W hD hpre hf hK => hf.elim
end Go.Proofs.YtgldieboflmnhaaGreatDoor
