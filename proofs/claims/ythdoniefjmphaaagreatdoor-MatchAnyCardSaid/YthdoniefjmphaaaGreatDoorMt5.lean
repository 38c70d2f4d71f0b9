/- Operations of a drawn region inside a fence, a line each: their side conditions are found by their tactics. -/
import Derived.Test.YthdoniefjmphaaaGreatDoorOps
import Derived.Test.YthdoniefjmphaaaGreatDoorAt
import Derived.Test.YthdoniefjmphaaaGreatDoorMt3
import Derived.Test.YthdoniefjmphaaaGreatDoorOnly
namespace Go.Proofs.YthdoniefjmphaaaGreatDoor
open Go Go.Proofs
section
variable {F : Fence} {n : Nat} {P : Program} {ops : Array Oper} {Q : Exit → Act → World → Prop} {md : Region.Mode} {S : World → Prop} {m : Nat}
theorem anyM_d (i : Nat) (D : List Nat) {oi : Oper} {v : Value} {k : Nat} {l l' : Array Bool} {a a' : Act} {w : World} (hS : S w) (h : anyM F n P md ops Q S m k l' a' w)
  (hi : ops[i]? = some oi := by (simp only [qa, qb, qc]; exact rfl))
  (hd : noDefer ops = true := by kernel_rfl) (hs : Region.noSelect ops = true := by kernel_rfl) (hf : Region.free md ops l i = true := by kernel_rfl) (hr : (Region.ready md ops l).contains i = true := by kernel_rfl) (hwt : downD md ops l D i m = true := by kernel_rfl)
  (hQ : ∀ c a w, Q (.panic c) (a.put oi.dst v) w → Q (.panic c) a w := by exact fun _ _ _ h => h)
  (hy : YieldsIf P ops S oi v a := by (refine Or.inl ⟨by rfl, ?_⟩; intro w hSw; (try dsimp only at hSw); go_simp; (try with_reducible rfl)))
  (hab : ∀ w, oi.about P w a.eval = none := by exact fun _ => rfl)
  (hl : l.setIfInBounds i true = l' := by (first | (simp only [qd, qe, qf]; done) | (simp only [qd, qe, qf]; with_reducible rfl) | with_reducible rfl))
  (ha : a.put oi.dst v = a' := by (first | (simp only [Act.put, qd, qe, qf]; done) | (simp only [Act.put, qd, qe, qf]; with_reducible rfl) | with_reducible rfl)) : anyM F n P md ops Q S m (k + 1) l a w := by
 subst hl ha;exact anyM_take D hd hi hs hf hr hwt hQ hy hab hS h
theorem anyM_o (i : Nat) {o : Oper} {k : Nat} {l l' : Array Bool} {a : Act} {w : World} (h : ∀ K : Act → World → Prop, (∀ b u, S u → anyM F n P md ops Q S m k l' b u → K b u) → o.wpIn F n P a w K Q)
  (ho : ops[i]? = some o := by (simp only [qa, qb, qc]; exact rfl)) (hr : Region.ready md ops l = [i] := by kernel_rfl) (hm : i ≠ m := by decide) (hw : Region.wanted o (yielded ops a.tmps) = true := by rfl)
  (hl : l.setIfInBounds i true = l' := by (first | (simp only [qd, qe, qf]; done) | (simp only [qd, qe, qf]; with_reducible rfl) | with_reducible rfl)) : anyM F n P md ops Q S m (k + 1) l a w := by
 subst hl;exact anyM_only hr hm ho hw h
theorem anyM_l {o : Oper} {k : Nat} {l l' : Array Bool} {a : Act} {w : World} (h : ∀ K : Act → World → Prop, (∀ b u, wpAnyIn F n P md ops Q k l' b u → K b u) → o.wpIn F n P a w K Q)
  (ho : ops[m]? = some o := by (simp only [qa, qb, qc]; exact rfl)) (hr : Region.ready md ops l = [m] := by kernel_rfl) (hw : Region.wanted o (yielded ops a.tmps) = true := by rfl)
  (hl : l.setIfInBounds m true = l' := by (first | (simp only [qd, qe, qf]; done) | (simp only [qd, qe, qf]; with_reducible rfl) | with_reducible rfl)) : anyM F n P md ops Q S m (k + 1) l a w := by
 subst hl;exact anyM_last hr ho hw h
theorem anyI_o (i : Nat) {o : Oper} {k : Nat} {l l' : Array Bool} {a : Act} {w : World} (h : ∀ K : Act → World → Prop, (∀ b u, wpAnyIn F n P md ops Q k l' b u → K b u) → o.wpIn F n P a w K Q)
  (ho : ops[i]? = some o := by (simp only [qa, qb, qc]; exact rfl)) (hr : Region.ready md ops l = [i] := by kernel_rfl) (hw : Region.wanted o (yielded ops a.tmps) = true := by rfl)
  (hl : l.setIfInBounds i true = l' := by (first | (simp only [qd, qe, qf]; done) | (simp only [qd, qe, qf]; with_reducible rfl) | with_reducible rfl)) : wpAnyIn F n P md ops Q (k + 1) l a w := by
 subst hl;exact anyIn_only hr ho hw h
end
end Go.Proofs.YthdoniefjmphaaaGreatDoor
/- match.Holds. -/
namespace Go.Proofs.YthdoniefjmphaaaGreatDoor
open Go Go.Proofs Go.RowKit Go.Shelf
set_option maxRecDepth 100000
attribute [local go_sem] Oper.semAt_some
theorem Labs.mono {n₀ n₁ : Nat} {A : World} {sv : Value} {zs : List SLab} (h : Labs n₀ A sv zs) (hn : n₀ ≤ n₁) : Labs n₁ A sv zs := by
 rcases h with h | ⟨b, off, cap, e, hb, hc⟩
 ·
  exact .inl h
 ·
  exact .inr ⟨b, off, cap, e, Nat.lt_of_lt_of_le hb hn, hc⟩
theorem labs_on {w W : World} {sv : Value} {zs : List SLab} (h : Labs w.heap.size w sv zs) (hb : Below w.heap.size w W) : Labs W.heap.size W sv zs := (h.below hb).mono hb.size
theorem holdsR_one (p : List SItm) (x : SItm) (zs : List SLab) (h : holdsR p zs = true) : holdsR (p ++ [x]) zs = holds1 x.1 (getR x.1.1 zs) := by rw [holdsR_snoc, h, Bool.true_and]
set_option maxHeartbeats 4000000 in
theorem mholds_any (sv : Value) (zs : List SItm) (hreach : zs.length ≤ 1000) (a2 : Option Addr) (n2 c2 : Nat) (ls : List SLab) (hr2 : ls.length ≤ 100) (hv2 : ∀ y ∈ ls, y.1.2.length ≤ 1000) (w : World) (hT : Tab w) (hI : MtL w.heap.size w sv zs) (hL : Labs w.heap.size w (.slice a2 n2 c2) ls) :
  Calls Tryz.prog 14 #[sv, .slice a2 n2 c2] w fun e w' => e = .returned (.bool (holdsR zs ls)) ∧ Below w.heap.size w w' := by
 obtain ⟨a, cap, rfl⟩ := hI.slice;refine (callsIn_wide (n := 9)).1 ?_;refine callsIn_of_wp_marks Tryz.func14 rfl trivial ?_ rfl;simp only [Tryz.ntmps14, List.size_toArray, List.length_cons, List.length_nil, Nat.reduceAdd, Nat.reduceSub, Array.replicate_succ, Array.replicate_zero, List.push_toArray, List.append_toArray, List.nil_append, List.cons_append]
 gi_wp2
 refine ⟨trivial, (mvalues_in Fence.wide 8 trivial rfl _ _ _ _).mono ?_⟩;rintro e w1 ⟨rfl, rfl⟩
 gi_wp2
 obtain ⟨W0, hW0⟩ : ∃ W0, (((w.alloc (.cells #[.slice a2 n2 c2] 24)).alloc (.cells #[.bool false] 4)).alloc (.cells #[.slice a zs.length cap] 22)) = W0 := ⟨_, rfl⟩;have hlp : Below w.heap.size w W0 := by rw [← hW0]; go_grown
 have hsz : W0.heap.size = w.heap.size + 3 := by rw [← hW0]; simp
 have bn0 : Boxed W0 w.heap.size 24 (.slice a2 n2 c2) := by
  rw [← hW0];exact ((Boxed.new w 24 (.slice a2 n2 c2)).alloc _).alloc _
 have br0 : Boxed W0 (w.heap.size + 1) 4 (.bool false) := by
  rw [← hW0];have h := Boxed.new (w.alloc (.cells #[.slice a2 n2 c2] 24)) 4 (.bool false);rw [World.size_alloc] at h;exact h.alloc _
 have bs0 : W0.cell? ⟨w.heap.size + 1 + 1, 0, none⟩ = some (.slice a zs.length cap) := by
  rw [← hW0];have h := cell_one_new ((w.alloc (.cells #[.slice a2 n2 c2] 24)).alloc (.cells #[.bool false] 4)) (.slice a zs.length cap) 22 0 _ rfl;simpa [Addr.add] using h
 have hI0 := hI.below hlp;have HT := Lib.hid (fun W (hW : Below w.heap.size w W) => hT.below hW);rw [hW0];have HG := Lib.hid (fun (n : List UInt8) W (hW : Below w.heap.size w W) => get_any a2 n2 c2 ls hr2 n W (labs_on hL hW));have HLn := Lib.hid (fun n => get_len n ls 1000 hv2);clear hW0 hI hT hL hv2;refine wpIn_rangeFunc_ownH (F := Fence.wide) (n := 9) rfl (by omega) (gf := 39) (lb := #[.pointer (some ⟨w.heap.size + 1 + 1, 0, none⟩)]) rfl trivial (enters_of Tryz.func39 (by kernel_rfl) rfl)
  (encs := fun x => #[itmV x.1]) (Kp := Below w.heap.size) (mvalues_stops Fence.wide (9 - 1) trivial rfl (by omega) (w.heap.size + 1 + 1) w.heap.size (.slice a zs.length cap) zs (by omega) W0 (by omega) (by omega) bs0 hI0) belowK_t (belowK_b (by omega)) (Below.refl _ _) (fun _ => rfl)
  (fun pre W => holdsR pre ls = true ∧ Boxed W w.heap.size 24 (.slice a2 n2 c2) ∧ Boxed W (w.heap.size + 1) 4 (.bool false) ∧ Below w.heap.size w W)
  (fun c pre W => (c = .ret ∧ holdsR pre ls = false) ∧ Boxed W (w.heap.size + 1) 4 (.bool false) ∧ Below w.heap.size w W)
  (OwnFrom.and (ownFrom_pure _ _) (OwnFrom.and (Own.from (boxed_own w.heap.size 24 (fun _ => .slice a2 n2 c2)) _) (OwnFrom.and (Own.from (boxed_own (w.heap.size + 1) 4 (fun _ => .bool false)) _) (ownFrom_below (Nat.le_refl _) (by rw [hsz]; omega)))))
  (fun c => OwnFrom.and (ownFrom_pure _ _) (OwnFrom.and (Own.from (boxed_own (w.heap.size + 1) 4 (fun _ => .bool false)) _) (ownFrom_below (Nat.le_refl _) (by rw [hsz]; omega))))
  ⟨rfl, bn0, br0, hlp⟩
  (fun x a' W => ∃ Bx, w.heap.size + 1 < Bx ∧ Blk W Bx #[.string ⟨x.1.1.toArray⟩, .string ⟨x.1.2.1.toArray⟩, .string ⟨x.1.2.2.toArray⟩] 49 ∧ a' = { tmps := #[.slice a zs.length cap, .slice a2 n2 c2, undef, .pointer (some ⟨w.heap.size, 0, none⟩), .pointer (some ⟨w.heap.size + 1, 0, none⟩), .pointer (some ⟨Bx, 0, none⟩), .slice a zs.length cap, .func (.func 39) #[] #[.pointer (some ⟨w.heap.size + 1 + 1, 0, none⟩)], .agg #[.string ⟨x.1.1.toArray⟩, .string ⟨x.1.2.1.toArray⟩, .string ⟨x.1.2.2.toArray⟩], undef, undef, undef, undef, undef, undef, undef], defers := [] })
  (fun x a' => ?ax) ?assign ?body ?done ?stop
 case ax => exact fun s X Y row ⟨Bx, q1, q2, q3⟩ hg hr => ⟨Bx, q1, (blk_own (β := Unit) Bx _ _).from _ () X Y row q2 hg hr, q3⟩
 case assign =>
  rintro l pre x W K ⟨hp, hn, hr0, hB⟩ hK;simp only [itmV];have hWs : w.heap.size + 1 < W.heap.size := hr0.lt
  gi_wp2
  exact hK _ _ ((KeepsOthers.alloc _ _).from _) ((Below.refl _ W).alloc (by omega) _) ⟨hp, hn.alloc _, hr0.alloc _, below_new hB _⟩ ⟨W.heap.size, hWs, heap_alloc_new W _, rfl⟩
 case body =>
  rintro l pre x a' W hl ⟨r, hr⟩ ⟨hp, hn, hr0, hB⟩ ⟨Bx, hBx, bX, rfl⟩ hlen;have hpx := holdsR_one pre x ls hp;obtain ⟨⟨xn, xo, xv⟩, hx⟩ := x;have hxv : xv.length ≤ 1000 := hx.2.2;dsimp only at bX hpx;have HPX := Lib.hid hpx;have HX := Lib.hid hx;have hg1 := HLn.out xn;have HGt := Lib.hid (HG.out xn W.drew hB.drew);have HHo := Lib.hid (fun W2 (h : Below w.heap.size w W2) => holds_any (xn, xo, xv) (getR xn ls) hxv hg1 W2 (HT.out W2 h));generalize hgv : getR xn ls = gv at *;have hS0 : ∀ u, (u = W ∨ u = W.drew) → u.cell? ⟨Bx, 0, none⟩ = some (.string ⟨xn.toArray⟩) ∧ u.cell? ⟨Bx, 1, none⟩ = some (.string ⟨xo.toArray⟩) ∧ u.cell? ⟨Bx, 2, none⟩ = some (.string ⟨xv.toArray⟩) ∧ u.cell? ⟨w.heap.size, 0, none⟩ = some (.slice a2 n2 c2) := by
   rintro u (rfl | rfl)
   ·
    exact ⟨blk_cell bX rfl, blk_cell bX rfl, blk_cell bX rfl, hn.cell⟩
   ·
    exact ⟨blk_cell bX rfl, blk_cell bX rfl, blk_cell bX rfl, hn.cell⟩
  clear hpx hp hgv hxv hg1;unfold itmV at HHo;dsimp only at HHo
  gi_wp2
  refine region_anyM (S := fun u => u.cell? ⟨Bx, 0, none⟩ = some (.string ⟨xn.toArray⟩) ∧ u.cell? ⟨Bx, 1, none⟩ = some (.string ⟨xo.toArray⟩) ∧ u.cell? ⟨Bx, 2, none⟩ = some (.string ⟨xv.toArray⟩) ∧ u.cell? ⟨w.heap.size, 0, none⟩ = some (.slice a2 n2 c2)) 5 (by kernel_rfl) (fun hS => ?_) (hS0 _ (.inr rfl));refine anyM_d 0 [0, 5] hS ?_;refine anyM_d 1 [1, 4, 5] hS ?_;refine anyM_d 2 [2, 3, 4, 5] hS ?_;refine anyM_d 3 [3, 4, 5] hS ?_;refine anyM_o 4 (fun K hK => ?_);go_simp
  refine ⟨trivial, ?_⟩
  gi_at_call 32
  refine (CallsIn.inRound l (callsIn_wide.2 HGt.out)).mono ?_;rintro e w2 ⟨rfl, hb2⟩;have n2' := boxed_below (show Boxed W.drew _ _ _ from hn) hb2;have r2 := boxed_below (show Boxed W.drew _ _ _ from hr0) hb2;have b2 := blk_below (show Blk W.drew _ _ _ from bX) hb2;have B2 := hB.drew.trans (hb2.mono hB.size);have K2 : KeepsOthers W w2 := ⟨hb2.size, fun k _ hk _ => (hb2.block k (Array.getElem?_eq_some_iff.1 hk).1).trans hk⟩;have L2 : Below w.heap.size W w2 := (Below.refl _ W).drew.trans (hb2.mono hB.size);have hS2 : w2.cell? ⟨Bx, 0, none⟩ = some (.string ⟨xn.toArray⟩) ∧ w2.cell? ⟨Bx, 1, none⟩ = some (.string ⟨xo.toArray⟩) ∧ w2.cell? ⟨Bx, 2, none⟩ = some (.string ⟨xv.toArray⟩) ∧ w2.cell? ⟨w.heap.size, 0, none⟩ = some (.slice a2 n2 c2) := ⟨blk_cell b2 rfl, blk_cell b2 rfl, blk_cell b2 rfl, n2'.cell⟩;have HH2 := Lib.hid (HHo.out w2 B2);clear hb2 HGt HHo hS hS0 hn hr0 bX hB;go_simp
  refine hK _ _ hS2 ?_;clear hK K;refine anyM_l (fun K hK => ?_);go_simp
  refine ⟨trivial, ?_⟩
  gi_at_call 31
  refine (CallsIn.inRound l (callsIn_wide.2 HH2.out)).mono ?_;rintro e w3 ⟨rfl, hb3⟩;have n3 := boxed_below n2' hb3;have r3 := boxed_below r2 hb3;have B3 := B2.trans (hb3.mono B2.size);have K3 := K2.trans (ko_below hb3);have L3 := L2.trans (hb3.mono B2.size);clear hb3 HH2 hS2 n2' r2 b2 B2 K2 L2;go_simp
  refine hK _ _ ?_;clear hK K;refine anyI_o 6 (fun K hK => ?_);go_simp
  refine hK _ _ ?_;clear hK K;refine anyIn_done (by kernel_rfl) ?_ _;have c3 := r3.cell;have f3 := r3.frozen;generalize hC : holds1 (xn, xo, xv) gv = C at *;cases C
  ·
   have K4 := K3.trans (KeepsOthers.setCell w3 ⟨w.heap.size + 1, 0, none⟩ (.bool false));have B4 := B3.setCell (p := ⟨w.heap.size + 1, 0, none⟩) (by simp) (.bool false)
   gi_wp2
   exact ⟨K4.from _, ⟨rfl, HPX.out⟩, r3.set _, B4⟩
  ·
   gi_wp2
   exact ⟨K3.from _, L3, HPX.out, n3, r3, B3⟩
 case done =>
  rintro D ys W hD rfl ⟨hp, hn, hr0, hB⟩ hK;have c4 := hr0.cell;have f4 := hr0.frozen;have HP := Lib.hid hp;clear hp
  gi_wp2
  have hn1 := hr0.set (.bool true);have hK' := (KeepsOthers.setCell W ⟨w.heap.size + 1, 0, none⟩ (.bool true)).same D _ hK rfl;refine ⟨by simp, .inl ⟨_, _, rfl, run_takeDeferred hK', ?_⟩⟩;have hc5 := cell_kept hn1.cell (grownBy_putObj' _ D (.deferred none)) (fun r e => by cases e; exact ⟨_, hK', rfl⟩);exact ⟨.bool true, by simp [results, Tryz.f14, go_sem, hc5], by rw [HP.out], (hB.setCell (p := ⟨w.heap.size + 1, 0, none⟩) (by simp) _).trans (belowK_b (w := w) (Nat.le_refl _) _ D _ _ (by rw [hsz] at hD; omega) hK' rfl rfl)⟩
 case stop =>
  rintro D c pre W hD hpre ⟨⟨rfl, hne⟩, hr0, hB⟩ hK;have c4 := hr0.cell;have HE := Lib.hid hne;clear hne
  gi_wp2
  refine ⟨by simp, .inl ⟨_, _, rfl, run_takeDeferred hK, ?_⟩⟩;have hc5 := cell_kept c4 (grownBy_putObj' _ D (.deferred none)) (fun r e => by cases e; exact ⟨_, hK, rfl⟩);exact ⟨.bool false, by simp [results, Tryz.f14, go_sem, hc5], by rw [holdsR_pre _ _ _ hpre HE.out], hB.trans (belowK_b (w := w) (Nat.le_refl _) W D _ _ (by rw [hsz] at hD; omega) hK rfl rfl)⟩
end Go.Proofs.YthdoniefjmphaaaGreatDoor
/- match.Parse. -/
namespace Go.Proofs.YthdoniefjmphaaaGreatDoor
open Go Go.Proofs Go.RowKit Go.Shelf
set_option maxRecDepth 100000
attribute [local go_sem] Oper.semAt_some
theorem info_mat : (Tryz.prog.info? 49).map (fun i => (i.zero, i.size, i.bytes)) = some (some (.agg #[.string ⟨#[]⟩, .string ⟨#[]⟩, .string ⟨#[]⟩]), 3, 48) := by kernel_rfl
def ops4 : List STx := [⟨[61], by simp⟩, ⟨[33, 61], by simp⟩, ⟨[61, 126], by simp⟩, ⟨[33, 126], by simp⟩]
def parseM (zs : List (SItm × Bool)) : Int := if allOkI zs then checkMR (zs.map (·.1)) else 2
def MParsePost (zs : List (SItm × Bool)) (w : World) (e : Ending) (w' : World) : Prop :=
 ∃ v, e = .returned (.tuple #[v, .int .i64 (parseM zs)]) ∧ (parseM zs = 0 → MtL w'.heap.size w' v (zs.map (·.1))) ∧ (parseM zs ≠ 0 → v = .slice none 0 0) ∧ Below w.heap.size w w'
theorem tx_four (w : World) : TxAt (w.alloc (.cells #[.string ⟨#[61]⟩, .string ⟨#[33, 61]⟩, .string ⟨#[61, 126]⟩, .string ⟨#[33, 126]⟩] 9)).heap.size (w.alloc (.cells #[.string ⟨#[61]⟩, .string ⟨#[33, 61]⟩, .string ⟨#[61, 126]⟩, .string ⟨#[33, 126]⟩] 9)) (.slice (some ⟨w.heap.size, 0, none⟩) 4 4) (ops4.map (·.1)) := by
 refine ⟨by decide, w.heap.size, 0, 4, rfl, by simp, fun j x hj => ?_⟩;have hB : Blk (w.alloc (.cells #[.string ⟨#[61]⟩, .string ⟨#[33, 61]⟩, .string ⟨#[61, 126]⟩, .string ⟨#[33, 126]⟩] 9)) w.heap.size #[.string ⟨#[61]⟩, .string ⟨#[33, 61]⟩, .string ⟨#[61, 126]⟩, .string ⟨#[33, 126]⟩] 9 := heap_alloc_new w _;rcases j with _ | _ | _ | _ | j
 ·
  have : x = [61] := by simpa [ops4] using hj.symm
  subst this; exact blk_cell hB rfl
 ·
  have : x = [33, 61] := by simpa [ops4] using hj.symm
  subst this; exact blk_cell hB rfl
 ·
  have : x = [61, 126] := by simpa [ops4] using hj.symm
  subst this; exact blk_cell hB rfl
 ·
  have : x = [33, 126] := by simpa [ops4] using hj.symm
  subst this; exact blk_cell hB rfl
 ·
  simp [ops4] at hj
set_option maxHeartbeats 4000000 in
theorem mparse_any (s : List UInt8) (hs : s.length ≤ 100000) (zs : List (SItm × Bool)) (hZ : WrSI (ops4.map (·.1)) s zs) (hreach : zs.length ≤ 100) (w : World) (hT : Tab w) :
  Calls Tryz.prog 13 #[.string ⟨s.toArray⟩] w (MParsePost zs w) := by
 obtain ⟨i0, hi, hz0, hz1, hz2⟩ := info_parts info_mat;have HI := Lib.hid hi;have HZ := Lib.hid hz0;have HZ1 := Lib.hid hz1;have HZ2 := Lib.hid hz2;clear hi hz0 hz1 hz2;have HBP := Lib.hid (bparse_any ops4 (some ⟨w.heap.size, 0, none⟩) 4 4 s hs zs hZ (by omega) (w.alloc (.cells #[.string ⟨#[61]⟩, .string ⟨#[33, 61]⟩, .string ⟨#[61, 126]⟩, .string ⟨#[33, 126]⟩] 9)) (tx_four w));have hb0 := below_cells (w := w) (.cells #[.string ⟨#[61]⟩, .string ⟨#[33, 61]⟩, .string ⟨#[61, 126]⟩, .string ⟨#[33, 126]⟩] 9);clear hZ;refine (callsIn_wide (n := 9)).1 ?_;refine callsIn_of_wp_marks Tryz.func13 rfl trivial ?_ rfl;simp only [Tryz.ntmps13, List.size_toArray, List.length_cons, List.length_nil, Nat.reduceAdd, Nat.reduceSub, Array.replicate_succ, Array.replicate_zero, List.push_toArray, List.append_toArray, List.nil_append, List.cons_append]
 gi_wp2
 refine ⟨trivial, (callsIn_wide.2 HBP.out).mono ?_⟩;rintro e w1 ⟨hb1, hpost⟩;have hbw := below_then hb0 hb1;rcases hpost with ⟨hok, v, rfl, hrow⟩ | ⟨hno, rfl⟩
 ·
  have hok2 := hok;have hIt := mtl_of_row (zs := zs.map (·.1)) (by simpa using hrow);obtain ⟨a, len, cap, rfl⟩ : ∃ a len cap, v = .slice a len cap := by
   rcases hIt with ⟨⟨_, _, rfl⟩, _⟩ | ⟨b, off, cap, rfl, _⟩
   ·
    exact ⟨_, _, _, rfl⟩
   ·
    exact ⟨_, _, _, rfl⟩
  have HOK : Hid (allOkI zs) := hok2;have HPC : Hid (parseM zs = checkMR (zs.map (·.1))) := by unfold Hid parseM; rw [if_pos hok2]
  have HIT := Lib.hid hIt;have HBW := Lib.hid hbw;have hzl : (zs.map (·.1)).length ≤ 100 := by rw [List.length_map]; exact hreach
  have HT := Lib.hid (fun W (hW : Below w.heap.size w W) => hT.below hW);clear hrow hok hok2 hIt HBP hb0 hb1 hbw hT;obtain ⟨ls, hls⟩ : ∃ ls, ls = zs.map (·.1) := ⟨_, rfl⟩;rw [← hls] at HPC HIT hzl;have HLS := Lib.hid hls;clear hls
  gi_wp2
  refine ⟨trivial, (ivalues_in Fence.wide 8 trivial rfl _ _ _ _).mono ?_⟩;rintro e w2 ⟨rfl, rfl⟩
  gi_wp2
  obtain ⟨W0, hW0⟩ : ∃ W0, ((w1.alloc (.cells #[.slice none 0 0] 22)).alloc (.cells #[.slice a len cap] 66)) = W0 := ⟨_, rfl⟩;have hlp : Below w1.heap.size w1 W0 := by rw [← hW0]; go_grown
  have hsz : W0.heap.size = w1.heap.size + 2 := by rw [← hW0]; simp
  have bv0 : Boxed W0 w1.heap.size 22 (.slice none 0 0) := by
   rw [← hW0];exact (Boxed.new w1 22 (.slice none 0 0)).alloc _
  have bs0 : W0.cell? ⟨w1.heap.size + 1, 0, none⟩ = some (.slice a len cap) := by
   rw [← hW0];have h : Boxed ((w1.alloc (.cells #[.slice none 0 0] 22)).alloc (.cells #[.slice a len cap] 66)) _ 66 _ := Boxed.new (w1.alloc (.cells #[.slice none 0 0] 22)) 66 (.slice a len cap);rw [World.size_alloc] at h;exact h.cell
  have hI0 := HIT.out.below hlp;rw [hW0];clear hW0;refine wpIn_rangeFunc_ownH (F := Fence.wide) (n := 9) rfl (by omega) (gf := 46) (lb := #[.pointer (some ⟨w1.heap.size + 1, 0, none⟩)]) rfl trivial (enters_of Tryz.func46 (by kernel_rfl) rfl)
   (encs := fun x : SItm => #[itmV x.1]) (Kp := Below w1.heap.size) (ivalues_stops Fence.wide (9 - 1) trivial rfl (by omega) (w1.heap.size + 1) w1.heap.size (.slice a len cap) ls (by omega) W0 (by omega) (by omega) bs0 hI0) belowK_t (belowK_b (by omega)) (Below.refl _ _) (fun _ => rfl)
   (fun pre W => (∃ v, Boxed W w1.heap.size 22 v ∧ W.ownsRow w1.heap.size 49 3 v pre.length (itmC pre) ∧ True) ∧ Below w1.heap.size w1 W)
   (fun _ _ _ => False)
   (OwnFrom.and (Own.from (holdsRow_own w1.heap.size w1.heap.size 22 49 3 (fun (pre : List SItm) => pre.length) (fun (pre : List SItm) => itmC pre) (fun _ _ => True)) _) (ownFrom_below (Nat.le_refl _) (by rw [hsz]; omega)))
   (fun _ _ _ _ _ hs _ _ => hs)
   ⟨⟨_, bv0, World.ownsRow_nil _ _ _ _, trivial⟩, hlp⟩
   (fun x a' W => ∃ Bx, w1.heap.size < Bx ∧ Blk W Bx #[.string ⟨x.1.1.toArray⟩, .string ⟨x.1.2.1.toArray⟩, .string ⟨x.1.2.2.toArray⟩] 70 ∧ a' = { tmps := #[.string ⟨s.toArray⟩, undef, .slice none 0 0, .int .i64 0, .slice a len cap, .bool true, .pointer (some ⟨w1.heap.size, 0, none⟩), .pointer (some ⟨Bx, 0, none⟩), undef, .tuple #[.slice a len cap, .bool true], .string ⟨s.toArray⟩, .slice (some ⟨w.heap.size, 0, none⟩) 4 4, .tuple #[.slice a len cap, .bool true], .slice a len cap, .bool true, .bool true, .bool false, .slice a len cap, .func (.func 46) #[] #[.pointer (some ⟨w1.heap.size + 1, 0, none⟩)], .agg #[.string ⟨x.1.1.toArray⟩, .string ⟨x.1.2.1.toArray⟩, .string ⟨x.1.2.2.toArray⟩], undef, undef, undef, undef, undef, undef, undef, undef, undef, undef], defers := [] })
   (fun x a' => ?ax) ?assign ?body ?done ?stop
  case ax => exact fun s X Y row ⟨Bx, q1, q2, q3⟩ hg hr => ⟨Bx, q1, (blk_own (β := Unit) Bx _ _).from _ () X Y row q2 hg hr, q3⟩
  case assign =>
   rintro l pre x W K ⟨⟨v, hv, hrow, _⟩, hB⟩ hK;simp only [itmV];have hWs : w1.heap.size < W.heap.size := hv.lt;have HR := Lib.hid hrow;clear hrow
   gi_wp2
   exact hK _ _ ((KeepsOthers.alloc _ _).from _) ((Below.refl _ W).alloc (by omega) _) ⟨⟨v, hv.alloc _, HR.out.alloc _, trivial⟩, below_new hB _⟩ ⟨W.heap.size, hWs, heap_alloc_new W _, rfl⟩
  case body =>
   rintro l pre x a' W hl ⟨r, hr⟩ ⟨⟨v, hv, hrow, _⟩, hB⟩ ⟨Bx, hBx, bX, rfl⟩ hlen;obtain ⟨⟨xn, xo, xv⟩, hx⟩ := x;dsimp only at bX;have HR := Lib.hid hrow;clear hrow;have hv3 := hv.cell;have cx0 := blk_cell (j := 0) bX rfl;have cx1 := blk_cell (j := 1) bX rfl;have cx2 := blk_cell (j := 2) bX rfl
   gi_wp2_with (gi_at_builtin; refine wpListIn_append_own _ rfl _ _ 22 rfl w1.heap.size 49 i0 (.agg #[.string ⟨#[]⟩, .string ⟨#[]⟩, .string ⟨#[]⟩]) 3 48 Tryz.underlying22 HI.out HZ.out HZ1.out HZ2.out rfl (by decide) _ _ _ rfl (HR.out.alloc _) ⟨W.heap.size, 0, none⟩ 1 1 [.string ⟨xn.toArray⟩, .string ⟨xo.toArray⟩, .string ⟨xv.toArray⟩] rfl rfl (cells3_new _ _ _ _ _) ?k1 ?k2 ?k3 ?k4 ?_)
   case k1 => intro u hu; simp at hu; rcases hu with rfl | rfl | rfl <;> rfl
   case k2 => unfold maxLen; omega
   case k3 => omega
   case k4 => have := hB.size; simp; omega
   intro v' w3 hown' hgrow _;obtain ⟨g', cap', rfl⟩ := ownsRow_succ hown';obtain ⟨hv1, hv2, hr2, hk2, hb2⟩ := hv.appended (by decide) HR.out hB.size (by omega) hown' hgrow;have hc1 := hv1.cell;have hf1 := hv1.frozen;have HR2 := Lib.hid hr2;clear hown' hgrow hr2 hv1
   gi_wp2
   refine ⟨hk2.from _, hb2, ⟨_, hv2, ?_, trivial⟩, hB.trans hb2⟩;have := HR2.out;rw [List.length_append];simpa [itmC_snoc] using this
  case done =>
   rintro D ys W hD rfl ⟨⟨v, hv, hrow, _⟩, hB⟩ hK;have hL := mtl_of_row (zs := ys) hrow;obtain ⟨a2, len2, cap2, rfl⟩ : ∃ a len cap, v = .slice a len cap := by
    rcases hL with ⟨⟨_, _, rfl⟩, _⟩ | ⟨b, off, cap, rfl, _⟩
    ·
     exact ⟨_, _, _, rfl⟩
    ·
     exact ⟨_, _, _, rfl⟩
   have HC := Lib.hid (mcheckL_any _ ys (by omega) W (HT.out W (HBW.out.trans (hB.mono HBW.out.size))) hL);have hv3 := hv.cell;have HRW := Lib.hid hrow;clear hL hrow
   gi_wp2
   refine ⟨trivial, (callsIn_wide.2 HC.out).mono ?_⟩;rintro e w2 ⟨rfl, hb2⟩;have v2 := boxed_below hv hb2;have K2 := (ko_below hb2).same D _ hK rfl;have hob : ∀ v : Value, v.ownBlock = none ∨ v.ownBlock ≠ none := fun v => by cases v.ownBlock <;> simp
   have R2 := HRW.out.kept (grown_below hb2) (hob _);have HR2 := Lib.hid R2;clear HRW R2 hob HC;have hB2 := hB.trans (hb2.mono hB.size);have c5 := v2.cell;generalize checkMR ys = c at *;have hDl := hb2.size;have HBE : Hid (Below w.heap.size w (w2.putObj D (.deferred none))) := below_then HBW.out (hB2.trans (belowK_b (w := w1) (Nat.le_refl _) w2 D _ _ (by rw [hsz] at hD; omega) K2 rfl rfl));by_cases h0 : c = 0
   ·
    have hne : (c != 0) = false := by rw [bne_eq_false_iff_eq]; exact h0
    have H0 := Lib.hid h0;clear h0
    gi_wp2
    refine ⟨by simp, .inl ⟨_, _, rfl, run_takeDeferred K2, ?_⟩⟩;refine ⟨.tuple #[.slice a2 len2 cap2, .int .i64 0], by simp [results, Tryz.f13, go_sem], _, by rw [HPC.out, H0.out], fun _ => ?_, fun h => absurd (HPC.out.trans H0.out) h, HBE.out⟩;rw [← HLS.out];exact mtl_of_row (base := w1.heap.size) (ownsRow_putObj HR2.out _ K2 rfl)
   ·
    have hne : (c != 0) = true := by rw [bne_iff_ne]; exact h0
    have H0 := Lib.hid h0;clear h0
    gi_wp2
    refine ⟨by simp, .inl ⟨_, _, rfl, run_takeDeferred K2, ?_⟩⟩;exact ⟨.tuple #[.slice none 0 0, .int .i64 c], by simp [results, Tryz.f13, go_sem], _, by rw [HPC.out], fun h => absurd (HPC.out.symm.trans h) H0.out, fun _ => rfl, HBE.out⟩
  case stop => exact fun D c pre W hD hpre hf hK => hf.elim
 ·
  have HNO : Hid (parseM zs = 2) := by
   unfold Hid parseM; rw [if_neg hno]
  have HBW := Lib.hid hbw;clear hno hb0 hb1 hbw HBP
  gi_wp2
  exact ⟨.tuple #[.slice none 0 0, .int .i64 2], by simp [results, Tryz.f13, go_sem], _, by rw [HNO.out], fun h => absurd (HNO.out.symm.trans h) (by decide), fun _ => rfl, HBW.out⟩
end Go.Proofs.YthdoniefjmphaaaGreatDoor
