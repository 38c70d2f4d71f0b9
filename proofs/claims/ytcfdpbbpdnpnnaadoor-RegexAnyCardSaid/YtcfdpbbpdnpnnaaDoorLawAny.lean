/- belfrylaw4.RegexAny: for every two texts the law returns true. -/
import Derived.Test.YtcfdpbbpdnpnnaaDoorKnown
import Derived.Test.YtcfdpbbpdnpnnaaDoorRComp
import Derived.Test.YtcfdpbbpdnpnnaaDoorRMatch
namespace Go.Proofs.YtcfdpbbpdnpnnaaDoor
open Go Go.Proofs Go.RowKit Go.Shelf
set_option maxRecDepth 100000
attribute [local go_sem] cell_set ndV
theorem comp_ne {l : List UInt8} {er j : Nat} (h : Rx.compileF l = .bad er j) : (((er : Nat) : Int) != 0) = true := by
  have : er ≠ 0 := by
    unfold Rx.compileF at h
    split at h
    · cases h; decide
    · have g := Rx.choice_goes (Rx.inner_goes (l := l) 9) (k := 0) (Nat.zero_le _)
      cases hs : Rx.choiceF (Rx.innerF l 9) l 0 with
      | bad e i => rw [hs] at h g; cases h; have := g.2.2; omega
      | ok q i =>
        rw [hs] at h
        dsimp only at h
        split at h
        · cases h; decide
        · cases h
  rw [bne_iff_ne]; omega
set_option maxHeartbeats 8000000 in
theorem any_p (p s : ByteArray) (lp ls : List UInt8) (hp : p.data.toList = lp) (hs : s.data.toList = ls) (w : World) (hT : Tab w) (h1 : 100 < lp.length) : Calls Tryd.prog 3 #[.string p, .string s] w fun e w' => e = .returned (.bool true) ∧ Below w.heap.size w w' := by
  have K := Lib.hid (known_any w hT)
  have HT := Lib.hid hT
  have sp : p.size = lp.length := by rw [Lib.size_eq, hp]
  have ss : s.size = ls.length := by rw [Lib.size_eq, hs]
  have HP := Lib.hid hp
  have HS := Lib.hid hs
  clear hT hp hs
  have d1 : decide ((100 : Int) < (lp.length : Int)) = true := decide_eq_true (by omega)
  have d2 : decide (100 < lp.length) = true := decide_eq_true (by omega)
  have dd1 : decide ((100 : Int) < (p.size : Int)) = true := decide_eq_true (by omega)
  have dd2 : decide (100 < p.size) = true := decide_eq_true (by omega)
  go_enter Tryd.func3, Tryd.ntmps3
  go_wp2_with fail
  refine K.out.mono ?_
  rintro e w1 ⟨rfl, hb⟩
  have HT := Lib.hid (HT.out.below hb)
  have HB := Lib.hid hb
  clear hb K
  go_wp2
  go_ret
  exact ⟨rfl, HB.out⟩
set_option maxHeartbeats 8000000 in
theorem any_s (p s : ByteArray) (lp ls : List UInt8) (hp : p.data.toList = lp) (hs : s.data.toList = ls) (w : World) (hT : Tab w) (h1 : lp.length ≤ 100) (h2 : 40 < ls.length) : Calls Tryd.prog 3 #[.string p, .string s] w fun e w' => e = .returned (.bool true) ∧ Below w.heap.size w w' := by
  have K := Lib.hid (known_any w hT)
  have HT := Lib.hid hT
  have sp : p.size = lp.length := by rw [Lib.size_eq, hp]
  have ss : s.size = ls.length := by rw [Lib.size_eq, hs]
  have HP := Lib.hid hp
  have HS := Lib.hid hs
  clear hT hp hs
  have d1 : decide ((100 : Int) < (lp.length : Int)) = false := decide_eq_false (by omega)
  have d2 : decide (100 < lp.length) = false := decide_eq_false (by omega)
  have dd1 : decide ((100 : Int) < (p.size : Int)) = false := decide_eq_false (by omega)
  have dd2 : decide (100 < p.size) = false := decide_eq_false (by omega)
  have g1 : decide ((40 : Int) < (ls.length : Int)) = true := decide_eq_true (by omega)
  have g2 : decide (40 < ls.length) = true := decide_eq_true (by omega)
  have gg1 : decide ((40 : Int) < (s.size : Int)) = true := decide_eq_true (by omega)
  have gg2 : decide (40 < s.size) = true := decide_eq_true (by omega)
  go_enter Tryd.func3, Tryd.ntmps3
  go_wp2_with fail
  refine K.out.mono ?_
  rintro e w1 ⟨rfl, hb⟩
  have HT := Lib.hid (HT.out.below hb)
  have HB := Lib.hid hb
  clear hb K
  go_wp2
  go_ret
  exact ⟨rfl, HB.out⟩
set_option maxHeartbeats 8000000 in
theorem any_b (p s : ByteArray) (lp ls : List UInt8) (hp : p.data.toList = lp) (hs : s.data.toList = ls) (w : World) (hT : Tab w) (h1 : lp.length ≤ 100) (h2 : ls.length ≤ 40) (er j : Nat) (hA : Rx.compileF lp = .bad er j) : Calls Tryd.prog 3 #[.string p, .string s] w fun e w' => e = .returned (.bool true) ∧ Below w.heap.size w w' := by
  have K := Lib.hid (known_any w hT)
  have HT := Lib.hid hT
  have sp : p.size = lp.length := by rw [Lib.size_eq, hp]
  have ss : s.size = ls.length := by rw [Lib.size_eq, hs]
  have HP := Lib.hid hp
  have HS := Lib.hid hs
  clear hT hp hs
  have d1 : decide ((100 : Int) < (lp.length : Int)) = false := decide_eq_false (by omega)
  have d2 : decide (100 < lp.length) = false := decide_eq_false (by omega)
  have dd1 : decide ((100 : Int) < (p.size : Int)) = false := decide_eq_false (by omega)
  have dd2 : decide (100 < p.size) = false := decide_eq_false (by omega)
  have g1 : decide ((40 : Int) < (ls.length : Int)) = false := decide_eq_false (by omega)
  have g2 : decide (40 < ls.length) = false := decide_eq_false (by omega)
  have gg1 : decide ((40 : Int) < (s.size : Int)) = false := decide_eq_false (by omega)
  have gg2 : decide (40 < s.size) = false := decide_eq_false (by omega)
  have HC := Lib.hid (fun W h => compile_any p lp HP.out (by omega) W h)
  have HR := Lib.hid (fun W => rcompile_any p lp HP.out W)
  rw [hA] at HC HR
  have ne := comp_ne hA
  have ne2 : (((er : Nat) : Int) == 0) = false := by have h := ne; rw [bne_iff_ne] at h; rw [beq_eq_false_iff_ne]; exact h
  clear hA
  go_enter Tryd.func3, Tryd.ntmps3
  go_wp2_with fail
  refine K.out.mono ?_
  rintro e w1 ⟨rfl, hb⟩
  have HT := Lib.hid (HT.out.below hb)
  have HB := Lib.hid hb
  clear hb K
  go_wp2_with fail
  refine (HC.out _ HT.out).mono ?_
  rintro e w2 ⟨hb, rfl⟩
  have HB := Lib.hid (HB.out.trans (hb.mono HB.out.size))
  clear hb
  go_wp2_with fail
  refine (HR.out _).mono ?_
  rintro e w3 ⟨hb, ⟨xo, xb, sa, sl, sc, ka, kl, kc⟩, at_, er_, rfl, rfl, rfl, -⟩
  have HB := Lib.hid (HB.out.trans (hb.mono HB.out.size))
  clear hb HC HR
  go_upto_region 9 with (fail)
  go_quiet (fail)
  go_wp2
  go_ret
  exact ⟨rfl, below_dN (below_new HB.out _) _⟩
set_option maxHeartbeats 8000000 in
theorem any_g (p s : ByteArray) (lp ls : List UInt8) (hp : p.data.toList = lp) (hs : s.data.toList = ls) (w : World) (hT : Tab w) (h1 : lp.length ≤ 100) (h2 : ls.length ≤ 40) (P : Rx.Pt) (z : Nat) (hA : Rx.compileF lp = .ok P z) : Calls Tryd.prog 3 #[.string p, .string s] w fun e w' => e = .returned (.bool true) ∧ Below w.heap.size w w' := by
  have K := Lib.hid (known_any w hT)
  have HT := Lib.hid hT
  have sp : p.size = lp.length := by rw [Lib.size_eq, hp]
  have ss : s.size = ls.length := by rw [Lib.size_eq, hs]
  have HP := Lib.hid hp
  have HS := Lib.hid hs
  clear hT hp hs
  have d1 : decide ((100 : Int) < (lp.length : Int)) = false := decide_eq_false (by omega)
  have d2 : decide (100 < lp.length) = false := decide_eq_false (by omega)
  have dd1 : decide ((100 : Int) < (p.size : Int)) = false := decide_eq_false (by omega)
  have dd2 : decide (100 < p.size) = false := decide_eq_false (by omega)
  have g1 : decide ((40 : Int) < (ls.length : Int)) = false := decide_eq_false (by omega)
  have g2 : decide (40 < ls.length) = false := decide_eq_false (by omega)
  have gg1 : decide ((40 : Int) < (s.size : Int)) = false := decide_eq_false (by omega)
  have gg2 : decide (40 < s.size) = false := decide_eq_false (by omega)
  have HC := Lib.hid (fun W h => compile_any p lp HP.out (by omega) W h)
  have HR := Lib.hid (fun W => rcompile_any p lp HP.out W)
  rw [hA] at HC HR
  have hcw := Rx.comp_whole hA
  have hlv : Rx.leaves P < 256 := by have h := hcw.2; omega
  obtain ⟨bm, hbm⟩ : ∃ bm, Rx.matchN P ls = bm := ⟨_, rfl⟩
  have HM := Lib.hid hbm
  have HL : Hid (bm = true ↔ Rx.Lang P ls) := by have h := Rx.match_lang (u := ls) P hlv; rw [hbm] at h; exact h
  have qb : (bm == bm) = true := beq_self_eq_true _
  have ls2 : ls.length ≤ 1000 := by omega
  clear hA hcw hbm hlv
  go_enter Tryd.func3, Tryd.ntmps3
  go_wp2_with fail
  refine K.out.mono ?_
  rintro e w1 ⟨rfl, hb⟩
  have HT := Lib.hid (HT.out.below hb)
  have HB := Lib.hid hb
  clear hb K
  go_wp2_with fail
  refine (HC.out _ HT.out).mono ?_
  rintro e w2 ⟨hb, rb, rfl, hgb, hX⟩
  have HX := Lib.hid hX
  have HB := Lib.hid (HB.out.trans (hb.mono HB.out.size))
  clear hb hX hgb
  go_wp2_with fail
  refine (HR.out _).mono ?_
  rintro e w3 ⟨hb, ⟨xo, xb, sa, sl, sc, ka, kl, kc⟩, at_, er_, rfl, rfl, rfl, d, hnd⟩
  have HX := Lib.hid (HX.out.below hb)
  have HN := Lib.hid hnd
  have HB := Lib.hid (HB.out.trans (hb.mono HB.out.size))
  clear hb hnd HC HR
  go_upto_region 9 with (fail)
  have D := At.new w3 #[.int .u8 xo, .bool xb, .slice sa sl sc, .slice ka kl kc] 30
  have hb := below_cells (w := w3) (.cells #[.int .u8 xo, .bool xb, .slice sa sl sc, .slice ka kl kc] 30)
  have HB := Lib.hid (below_new HB.out (.cells #[.int .u8 xo, .bool xb, .slice sa sl sc, .slice ka kl kc] 30))
  generalize w3.alloc (.cells #[.int .u8 xo, .bool xb, .slice sa sl sc, .slice ka kl kc] 30) = v at *
  have HX := Lib.hid (HX.out.below hb)
  have HN := Lib.hid (HN.out.keep (S' := fun g => g < w3.heap.size) (fun g hg => hg.2) (fun g hg => hb.block g hg.2))
  have C1 : Hid (∀ u : World, Below v.heap.size v u → Calls Tryd.prog 11 #[.pointer (some ⟨rb, 0, none⟩)] u fun e w' => e = .returned (.string p) ∧ Below u.heap.size u w') := fun u hu => (rtext_any _ rb _ _ _ u (HX.out.below hu)).mono fun e w' h => ⟨h.1, h.2 ▸ Below.refl _ _⟩
  have C2 : Hid (∀ u : World, Below v.heap.size v u → Calls Tryd.prog 12 #[.pointer (some ⟨rb, 0, none⟩), .string s] u fun e w' => e = .returned (.bool bm) ∧ Below u.heap.size u w') := fun u hu => match_c _ rb _ _ _ u (HX.out.below hu) ls ls2 bm HM.out s HS.out
  have C3 : Hid (∀ u : World, Below v.heap.size v u → Calls Tryd.prog 13 #[.agg #[.int .u8 xo, .bool xb, .slice sa sl sc, .slice ka kl kc], .string s] u fun e w' => e = .returned (.bool bm) ∧ Below u.heap.size u w') := fun u hu => rmatch_any d ⟨xo, xb, sa, sl, sc, ka, kl, kc⟩ P (fun g => g < w3.heap.size) u (HN.out.keep (fun _ h => h) (fun g hg => hu.block g (Nat.lt_of_lt_of_le hg hb.size))) (fun g hg => Nat.lt_of_lt_of_le (Nat.lt_of_lt_of_le hg hb.size) hu.size) s ls HS.out h2 bm HL.out
  have aD0 := D.cell 0 _ rfl
  have aD1 := D.cell 1 _ rfl
  have aD2 := D.cell 2 _ rfl
  have aD3 := D.cell 3 _ rfl
  have HHB := Lib.hid hb
  clear D hb HX HN
  go_region_held3 (fun u => u.cell? ⟨w3.heap.size, 0, none⟩ = some (.int .u8 xo) ∧ u.cell? ⟨w3.heap.size, 1, none⟩ = some (.bool xb) ∧ u.cell? ⟨w3.heap.size, 2, none⟩ = some (.slice sa sl sc) ∧ u.cell? ⟨w3.heap.size, 3, none⟩ = some (.slice ka kl kc) ∧ Below v.heap.size v u)
    (first
      | ((repeat' apply And.intro) <;> first | go_cell | exact (Below.refl _ _).drew)
      | (go_split_ands
         (repeat' apply And.intro) <;> first | (refine cell_later hb1 ?_; with_reducible assumption) | (refine below_then ?_ hb1; with_reducible assumption)))
    (first
      | (go_at_call 11; (refine (C1.out _ (by first | with_reducible assumption | exact (Below.refl _ _).drew | (go_split_ands; with_reducible assumption))).mono ?_); rintro e w1 ⟨rfl, hb1⟩)
      | (go_at_call 12; (refine (C2.out _ (by first | with_reducible assumption | exact (Below.refl _ _).drew | (go_split_ands; with_reducible assumption))).mono ?_); rintro e w1 ⟨rfl, hb1⟩)
      | (go_at_call 13; (refine (C3.out _ (by first | with_reducible assumption | exact (Below.refl _ _).drew | (go_split_ands; with_reducible assumption))).mono ?_); rintro e w1 ⟨rfl, hb1⟩))
  (try go_split_ands)
  have hB : Below v.heap.size v w1 := by with_reducible assumption
  have HBB := Lib.hid (below_then HB.out hB)
  clear hB hb1
  go_wp2
  go_ret
  exact ⟨rfl, HBB.out⟩
theorem any_law (p s : ByteArray) (w : World) (hT : Tab w) : Calls Tryd.prog 3 #[.string p, .string s] w fun e w' => e = .returned (.bool true) ∧ Below w.heap.size w w' := by
  by_cases h1 : 100 < p.data.toList.length
  · exact any_p p s _ _ rfl rfl w hT h1
  by_cases h2 : 40 < s.data.toList.length
  · exact any_s p s _ _ rfl rfl w hT (by omega) h2
  cases hA : Rx.compileF p.data.toList with
  | bad er j => exact any_b p s _ _ rfl rfl w hT (by omega) (by omega) er j hA
  | ok P z => exact any_g p s _ _ rfl rfl w hT (by omega) (by omega) P z hA
end Go.Proofs.YtcfdpbbpdnpnnaaDoor
