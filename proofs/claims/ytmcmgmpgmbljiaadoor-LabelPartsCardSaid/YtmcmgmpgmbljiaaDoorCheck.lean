/- label.Check. -/
import Derived.Test.YtmcmgmpgmbljiaaDoorGet
import Derived.Test.YtmcmgmpgmbljiaaDoorValue
namespace Go.Proofs.YtmcmgmpgmbljiaaDoor
open Go Go.Proofs Go.RowKit Go.Shelf
set_option maxRecDepth 100000
attribute [local go_sem] Oper.semAt_some
/-- what Check says of labels, the last name having been so -/
def chk : List UInt8 → List SLab → Int
  | _, [] => 0
  | last, x :: t => if nameR x.1.1 = false then 5 else if (Op.bytesLess x.1.1 last || x.1.1 == last) = true then 6 else if valueR x.1.2 = false then 1 else chk x.1.1 t
def checkR (zs : List SLab) : Int := if 16 < zs.length then 4 else chk [] zs
def lastN (l : List UInt8) (p : List SLab) : List UInt8 := p.foldl (fun _ x => x.1.1) l
theorem lastN_snoc (l : List UInt8) (p : List SLab) (x : SLab) : lastN l (p ++ [x]) = x.1.1 := by unfold lastN; rw [List.foldl_append]; rfl
theorem chk_cons (l : List UInt8) (x : SLab) (t : List SLab) : chk l (x :: t) = if nameR x.1.1 = false then 5 else if (Op.bytesLess x.1.1 l || x.1.1 == l) = true then 6 else if valueR x.1.2 = false then 1 else chk x.1.1 t := rfl
theorem chk_app (p q : List SLab) : ∀ l, chk l p = 0 → chk l (p ++ q) = chk (lastN l p) q := by
  induction p with
  | nil => intro l _; rfl
  | cons x t ih =>
    intro l h
    rw [chk_cons] at h
    rw [List.cons_append, chk_cons]
    by_cases h1 : nameR x.1.1 = false
    · rw [if_pos h1] at h; cases h
    · rw [if_neg h1] at h ⊢
      by_cases h2 : (Op.bytesLess x.1.1 l || x.1.1 == l) = true
      · rw [if_pos h2] at h; cases h
      · rw [if_neg h2] at h ⊢
        by_cases h3 : valueR x.1.2 = false
        · rw [if_pos h3] at h; cases h
        · rw [if_neg h3] at h ⊢
          exact ih _ h
theorem chk_pre (p q : List SLab) : ∀ l, chk l p ≠ 0 → chk l (p ++ q) = chk l p := by
  induction p with
  | nil => intro l h; exact absurd rfl h
  | cons x t ih =>
    intro l h
    rw [chk_cons] at h
    rw [List.cons_append, chk_cons, chk_cons]
    by_cases h1 : nameR x.1.1 = false
    · rw [if_pos h1, if_pos h1]
    · rw [if_neg h1] at h ⊢
      rw [if_neg h1]
      by_cases h2 : (Op.bytesLess x.1.1 l || x.1.1 == l) = true
      · rw [if_pos h2, if_pos h2]
      · rw [if_neg h2] at h ⊢
        rw [if_neg h2]
        by_cases h3 : valueR x.1.2 = false
        · rw [if_pos h3, if_pos h3]
        · rw [if_neg h3] at h ⊢
          rw [if_neg h3]
          exact ih _ h
theorem grown_below {W w2 : World} (hb : Below W.heap.size W w2) : W.grownBy w2 none := ⟨hb.os, hb.tape, hb.output, hb.size, fun k hk _ => hb.block k hk⟩
theorem ko_below {W w2 : World} (hb : Below W.heap.size W w2) : KeepsOthers W w2 :=
  ⟨hb.size, fun k _ hk _ => (hb.block k (Array.getElem?_eq_some_iff.1 hk).1).trans hk⟩
theorem boxed_below {W w2 : World} {B : Nat} {t : TypeId} {v : Value} (h : Boxed W B t v) (hb : Below W.heap.size W w2) : Boxed w2 B t v := (hb.block B h.lt).trans h
theorem blk_below {W w2 : World} {B : Nat} {t : TypeId} {cs : Array Value} (h : Blk W B cs t) (hb : Below W.heap.size W w2) : Blk w2 B cs t := (hb.block B (Array.getElem?_eq_some_iff.1 h).1).trans h
theorem blk_cell {W : World} {B j : Nat} {cs : Array Value} {t : TypeId} {v : Value} (h : Blk W B cs t) (hj : cs[j]? = some v) : W.cell? ⟨B, j, none⟩ = some v := by
  simp [World.cell?, show W.heap[B]? = _ from h, hj]
theorem Labs.len {n₀ : Nat} {W : World} {a : Option Addr} {len cap : Nat} {zs : List SLab} (h : Labs n₀ W (.slice a len cap) zs) : len = zs.length := by
  rcases h with ⟨⟨_, _, e⟩, rfl⟩ | ⟨b, off, c, e, _⟩
  · injection e
  · injection e
set_option maxHeartbeats 4000000 in
theorem check_any (a : Option Addr) (len cap : Nat) (zs : List SLab) (hreach : zs.length ≤ 100) (w : World) (hI : Labs w.heap.size w (.slice a len cap) zs) :
    Calls Tryd.prog 12 #[.slice a len cap] w fun e w' => e = .returned (.int .i64 (checkR zs)) ∧ Below w.heap.size w w' := by
  obtain rfl : len = zs.length := hI.len
  by_cases h16 : 16 < zs.length
  · have hR : Hid (checkR zs = 4) := by unfold Hid checkR; rw [if_pos h16]
    have hz : (16 : Int) < (zs.length : Int) := by omega
    go_enter Tryd.func12, Tryd.ntmps12
    go_wp2
    refine bodyPost_ret (v := .int .i64 4) (by simp [results, Tryd.results12, go_sem]) rfl ⟨by rw [hR.out], by go_grown⟩
  have hR : Hid (checkR zs = chk [] zs) := by unfold Hid checkR; rw [if_neg h16]
  have hz : ¬ (16 : Int) < (zs.length : Int) := by omega
  refine (callsIn_wide (n := 9)).1 ?_
  refine callsIn_of_wp_marks Tryd.func12 rfl trivial ?_ rfl
  simp only [Tryd.ntmps12, List.size_toArray, List.length_cons, List.length_nil, Nat.reduceAdd, Nat.reduceSub, Array.replicate_succ, Array.replicate_zero, List.push_toArray, List.append_toArray, List.nil_append, List.cons_append]
  gi_wp2
  refine ⟨trivial, (values_in Fence.wide 8 trivial rfl _ _ _ _).mono ?_⟩
  rintro e w1 ⟨rfl, rfl⟩
  gi_wp2
  obtain ⟨W0, hW0⟩ : ∃ W0, (((w.alloc (.cells #[.int .i64 0] 29)).alloc (.cells #[.string ⟨#[]⟩] 9)).alloc (.cells #[.slice a zs.length cap] 23)) = W0 := ⟨_, rfl⟩
  have hlp : Below w.heap.size w W0 := by rw [← hW0]; go_grown
  have hsz : W0.heap.size = w.heap.size + 3 := by rw [← hW0]; simp
  have br0 : Boxed W0 w.heap.size 29 (.int .i64 0) := by
    rw [← hW0]
    exact ((Boxed.new w 29 (.int .i64 0)).alloc _).alloc _
  have bl0 : Boxed W0 (w.heap.size + 1) 9 (.string ⟨#[]⟩) := by
    rw [← hW0]
    have h := Boxed.new (w.alloc (.cells #[.int .i64 0] 29)) 9 (.string ⟨#[]⟩)
    rw [World.size_alloc] at h
    exact h.alloc _
  have bs0 : W0.cell? ⟨w.heap.size + 1 + 1, 0, none⟩ = some (.slice a zs.length cap) := by
    rw [← hW0]
    have h := cell_one_new ((w.alloc (.cells #[.int .i64 0] 29)).alloc (.cells #[.string ⟨#[]⟩] 9)) (.slice a zs.length cap) 23 0 _ rfl
    simpa [Addr.add] using h
  have hI0 := hI.below hlp
  rw [hW0]
  clear hW0 hI
  refine wpIn_rangeFunc_ownH (F := Fence.wide) (n := 9) rfl (by omega) (gf := 54) (lb := #[.pointer (some ⟨w.heap.size + 1 + 1, 0, none⟩)]) rfl trivial (enters_of Tryd.func54 (by kernel_rfl) rfl)
    (encs := fun x => #[labV x.1]) (Kp := Below w.heap.size) (values_stops Fence.wide (9 - 1) trivial rfl (by omega) (w.heap.size + 1 + 1) w.heap.size (.slice a zs.length cap) zs (by omega) W0 (by omega) (by omega) bs0 hI0) belowK_t (belowK_b (by omega)) (Below.refl _ _) (fun _ => rfl)
    (fun pre W => chk [] pre = 0 ∧ Boxed W w.heap.size 29 (.int .i64 0) ∧ Boxed W (w.heap.size + 1) 9 (.string ⟨(lastN [] pre).toArray⟩) ∧ Below w.heap.size w W)
    (fun c pre W => (c = .ret ∧ chk [] pre ≠ 0) ∧ Boxed W w.heap.size 29 (.int .i64 (chk [] pre)) ∧ Below w.heap.size w W)
    (OwnFrom.and (ownFrom_pure _ _) (OwnFrom.and (Own.from (boxed_own w.heap.size 29 (fun _ => .int .i64 0)) _) (OwnFrom.and (Own.from (boxed_own (w.heap.size + 1) 9 (fun pre => .string ⟨(lastN [] pre).toArray⟩)) _) (ownFrom_below (Nat.le_refl _) (by rw [hsz]; omega)))))
    (fun c => OwnFrom.and (ownFrom_pure _ _) (OwnFrom.and (Own.from (boxed_own w.heap.size 29 (fun pre => .int .i64 (chk [] pre))) _) (ownFrom_below (Nat.le_refl _) (by rw [hsz]; omega))))
    ⟨rfl, br0, bl0, hlp⟩
    (fun x a' W => ∃ Bx, w.heap.size + 1 < Bx ∧ Blk W Bx #[.string ⟨x.1.1.toArray⟩, .string ⟨x.1.2.toArray⟩] 55 ∧ a' = { tmps := #[.slice a zs.length cap, undef, .pointer (some ⟨w.heap.size, 0, none⟩), .pointer (some ⟨w.heap.size + 1, 0, none⟩), .pointer (some ⟨Bx, 0, none⟩), .slice a zs.length cap, .int .i64 (zs.length : Int), .bool false, .slice a zs.length cap, .func (.func 54) #[] #[.pointer (some ⟨w.heap.size + 1 + 1, 0, none⟩)], .agg #[.string ⟨x.1.1.toArray⟩, .string ⟨x.1.2.toArray⟩], undef, undef, undef, undef, undef, undef, undef, undef, undef, undef, undef, undef, undef, undef, undef, undef, undef], defers := [] })
    (fun x a' => ?ax) ?assign ?body ?done ?stop
  case ax => exact fun s X Y row ⟨Bx, q1, q2, q3⟩ hg hr => ⟨Bx, q1, (blk_own (β := Unit) Bx _ _).from _ () X Y row q2 hg hr, q3⟩
  case assign =>
    rintro l pre x W K ⟨hp, hn, hr0, hB⟩ hK
    simp only [labV]
    have hWs : w.heap.size + 1 < W.heap.size := hr0.lt
    gi_wp2
    exact hK _ _ ((KeepsOthers.alloc _ _).from _) ((Below.refl _ W).alloc (by omega) _) ⟨hp, hn.alloc _, hr0.alloc _, below_new hB _⟩ ⟨W.heap.size, hWs, heap_alloc_new W _, rfl⟩
  case body =>
    rintro l pre x a' W hl ⟨r, hr⟩ ⟨hp, hn, hr0, hB⟩ ⟨Bx, hBx, bX, rfl⟩ hlen
    have hpx := chk_app pre [x] [] hp
    rw [chk_cons] at hpx
    have hls := lastN_snoc [] pre x
    obtain ⟨⟨xn, xv⟩, hx⟩ := x
    dsimp only at bX hpx hls
    generalize lastN [] pre = last at *
    have HPX := Lib.hid hpx
    have HLS := Lib.hid hls
    clear hpx hp hls
    have cx0 := blk_cell (j := 0) bX rfl
    have HN := Lib.hid (name_any xn W)
    cases hnm : nameR xn
    · rw [hnm] at HN HPX
      have c3 := hn.cell
      have f3 := hn.frozen
      gi_wp2
      refine ⟨trivial, (CallsIn.inRound l (callsIn_wide.2 HN.out)).mono ?_⟩
      rintro e w2 ⟨rfl, hb2⟩
      have n2 := boxed_below hn hb2
      have c3 := n2.cell
      have f3 := n2.frozen
      have hB2 := hB.trans (hb2.mono hB.size)
      have e5 : chk [] (pre ++ [⟨(xn, xv), hx⟩]) = 5 := by rw [HPX.out]; simp
      have K2 := (ko_below hb2).trans (KeepsOthers.setCell w2 ⟨w.heap.size, 0, none⟩ (.int .i64 5))
      have B3 := hB2.setCell (p := ⟨w.heap.size, 0, none⟩) (Nat.le_refl _) (.int .i64 5)
      have E5 := Lib.hid e5
      clear e5 HPX HLS hb2 hB2 HN
      gi_wp2
      exact ⟨K2.from _, ⟨rfl, by rw [E5.out]; decide⟩, by rw [E5.out]; exact n2.set _, B3⟩
    · rw [hnm] at HN HPX
      have e5 : chk [] (pre ++ [⟨(xn, xv), hx⟩]) = (if (Op.bytesLess xn last || xn == last) = true then 6 else if valueR xv = false then 1 else 0) := by rw [HPX.out, if_neg (by simp)]; rfl
      have E5 := Lib.hid e5
      clear e5 HPX
      gi_wp2
      refine ⟨trivial, (CallsIn.inRound l (callsIn_wide.2 HN.out)).mono ?_⟩
      rintro e w2 ⟨rfl, hb2⟩
      have n2 := boxed_below hn hb2
      have m2 := boxed_below hr0 hb2
      have b2 := blk_below bX hb2
      have hB2 := hB.trans (hb2.mono hB.size)
      have K2 := ko_below hb2
      have L2 : Below w.heap.size W w2 := hb2.mono hB.size
      have hs2 := hB2.size
      have hs3 := n2.lt
      clear hb2 HN hn hr0 bX cx0 hB
      have c3 := n2.cell
      have f3 := n2.frozen
      have c4 := m2.cell
      have f4 := m2.frozen
      have cx0 := blk_cell (j := 0) b2 rfl
      have cx1 := blk_cell (j := 1) b2 rfl
      have HV := Lib.hid (value_any xv w2)
      have g1 : ByteArray.toList ⟨xn.toArray⟩ = xn := by rw [ByteArray.toList_eq]
      have g2 : ByteArray.toList ⟨last.toArray⟩ = last := by rw [ByteArray.toList_eq]
      obtain ⟨bl, hbl⟩ : ∃ bl, (Op.bytesLess xn last || xn == last) = bl := ⟨_, rfl⟩
      rw [hbl] at E5
      cases bl
      · cases hvl : valueR xv
        · rw [hvl] at E5 HV
          have e5 : chk [] (pre ++ [⟨(xn, xv), hx⟩]) = 1 := by rw [E5.out]; simp
          have F5 := Lib.hid e5
          clear e5 E5
          gi_wp2
          refine ⟨trivial, (CallsIn.inRound l (callsIn_wide.2 HV.out)).mono ?_⟩
          rintro e w3 ⟨rfl, hb3⟩
          have n3 := boxed_below n2 hb3
          have c3 := n3.cell
          have f3 := n3.frozen
          have hB3 := (hB2.trans (hb3.mono hs2)).setCell (p := ⟨w.heap.size, 0, none⟩) (Nat.le_refl _) (.int .i64 1)
          have K3 := (K2.trans (ko_below hb3)).trans (KeepsOthers.setCell w3 ⟨w.heap.size, 0, none⟩ (.int .i64 1))
          clear hb3
          gi_wp2
          exact ⟨K3.from _, ⟨rfl, by rw [F5.out]; decide⟩, by rw [F5.out]; exact n3.set _, hB3⟩
        · rw [hvl] at E5 HV
          have e5 : chk [] (pre ++ [⟨(xn, xv), hx⟩]) = 0 := by rw [E5.out]; simp
          have F5 := Lib.hid e5
          clear e5 E5
          gi_wp2
          refine ⟨trivial, (CallsIn.inRound l (callsIn_wide.2 HV.out)).mono ?_⟩
          rintro e w3 ⟨rfl, hb3⟩
          have n3 := boxed_below n2 hb3
          have m3 := boxed_below m2 hb3
          have b3 := blk_below b2 hb3
          have c3 := n3.cell
          have f3 := n3.frozen
          have c4 := m3.cell
          have f4 := m3.frozen
          have cx0 := blk_cell (j := 0) b3 rfl
          have hB3 := (hB2.trans (hb3.mono hs2)).setCell (p := ⟨w.heap.size + 1, 0, none⟩) (by simp) (.string ⟨xn.toArray⟩)
          have K3 := (K2.trans (ko_below hb3)).trans (KeepsOthers.setCell w3 ⟨w.heap.size + 1, 0, none⟩ (.string ⟨xn.toArray⟩))
          have L3 := (L2.trans (hb3.mono hs2)).setCell (p := ⟨w.heap.size + 1, 0, none⟩) (by simp) (.string ⟨xn.toArray⟩)
          clear hb3
          gi_wp2
          exact ⟨K3.from _, L3, F5.out, n3.other (by omega) _, by rw [HLS.out]; exact m3.set _, hB3⟩
      · have e5 : chk [] (pre ++ [⟨(xn, xv), hx⟩]) = 6 := by rw [E5.out]; simp
        have F5 := Lib.hid e5
        have hB3 := hB2.setCell (p := ⟨w.heap.size, 0, none⟩) (Nat.le_refl _) (.int .i64 6)
        have K3 := K2.trans (KeepsOthers.setCell w2 ⟨w.heap.size, 0, none⟩ (.int .i64 6))
        clear e5 E5
        gi_wp2
        exact ⟨K3.from _, ⟨rfl, by rw [F5.out]; decide⟩, by rw [F5.out]; exact n2.set _, hB3⟩
  case done =>
    rintro D ys W hD rfl ⟨hp, hn, hr0, hB⟩ hK
    have c4 := hn.cell
    have f4 := hn.frozen
    have HP := Lib.hid hp
    clear hp
    gi_wp2
    have hn1 := hn.set (.int .i64 0)
    have hK' := (KeepsOthers.setCell W ⟨w.heap.size, 0, none⟩ (.int .i64 0)).same D _ hK rfl
    refine ⟨by simp, .inl ⟨_, _, rfl, run_takeDeferred hK', ?_⟩⟩
    have hc5 := cell_kept hn1.cell (grownBy_putObj' _ D (.deferred none)) (fun r e => by cases e; exact ⟨_, hK', rfl⟩)
    exact ⟨.int .i64 0, by simp [results, Tryd.f12, go_sem, hc5], by rw [hR.out, HP.out], (hB.setCell (p := ⟨w.heap.size, 0, none⟩) (by simp) _).trans (belowK_b (w := w) (Nat.le_refl _) _ D _ _ (by rw [hsz] at hD; omega) hK' rfl rfl)⟩
  case stop =>
    rintro D c pre W hD ⟨t, rfl⟩ ⟨⟨rfl, hne⟩, hr0, hB⟩ hK
    have c4 := hr0.cell
    have HE := Lib.hid hne
    clear hne
    gi_wp2
    refine ⟨by simp, .inl ⟨_, _, rfl, run_takeDeferred hK, ?_⟩⟩
    have hc5 := cell_kept c4 (grownBy_putObj' _ D (.deferred none)) (fun r e => by cases e; exact ⟨_, hK, rfl⟩)
    exact ⟨.int .i64 (chk [] pre), by simp [results, Tryd.f12, go_sem, hc5], by rw [hR.out, chk_pre _ _ _ HE.out], hB.trans (belowK_b (w := w) (Nat.le_refl _) W D _ _ (by rw [hsz] at hD; omega) hK rfl rfl)⟩
end Go.Proofs.YtmcmgmpgmbljiaaDoor
