/- belfrylaw16.QueueNumbers: it answers true. -/
import Derived.Test.YtdgjcahgoilahaaQk
import Derived.Test.YtdgjcahgoilahaaBl
import Derived.Test.YtdgjcahgoilahaaNs
import Derived.BigQuiet
import Derived.Deep.QuietTactic
namespace Go.Proofs.Ytdgjcahgoilahaa
open Go Go.Proofs Go.RowKit Go.Shelf
set_option maxRecDepth 100000
attribute [local go_sem] Oper.semAt_some
namespace LawQueueNumbers
theorem Nsat {w : World} {a : Option Addr} {L : List Int} (h : Ns .i64 w a L) {k : Nat} {x : Int} (hx : L[k]? = some x) :
    ∃ b off, a = some ⟨b, off, none⟩ ∧ b < w.heap.size ∧ ∀ W, Below w.heap.size w W → W.cell? ⟨b, off + k, none⟩ = some (.int .i64 x) := by
  obtain ⟨b, off, e, hb, hc⟩ := h.at hx
  exact ⟨b, off, e, hb, fun W hW => (hW.cell (p := ⟨b, off + k, none⟩) hb).trans hc⟩
/-- what lies at a round's head: the queue at b, what came out at ov -/
structure NumS (B b : Nat) (w : World) (v : Value) (o : Option Nat) (X : List Int) (ov : Value) (O : List Int) : Prop where
  Q : QAI B w b 1024 v o X
  R : w.ownsRow B 2 1 ov O.length (O.map qEI)
  ne : ∀ k ∈ ov.ownBlock.toList, k ∉ b :: o.toList
section
variable {B b : Nat} {w w' : World} {v ov : Value} {o : Option Nat} {X O : List Int}
theorem NumS.below (h : NumS B b w v o X ov O) (hb : Below w.heap.size w w') : NumS B b w' v o X ov O := ⟨h.Q.below hb, own_below' h.R hb, h.ne⟩
theorem NumS.putQ (h : NumS B b w v o X ov O) {v' : Value} {o' : Option Nat} {X' : List Int} (hQ : QAI B w' b 1024 v' o' X') (t : To (b :: o.toList) (b :: o'.toList) w w') : NumS B b w' v' o' X' ov O ∧ Below B w w' :=
  ⟨⟨hQ, own_keep h.R (fun g e => t.block g (World.ownsRow.lt h.R g e).2 (h.ne g (by rw [e]; simp))), fun k hk hm => by
    rcases t.new k hm with q | q
    · exact h.ne k hk q
    · have := (own_foot h.R k hk).2; omega⟩, h.Q.to_below t⟩
theorem NumS.putR (h : NumS B b w v o X ov O) {ov' : Value} {O' : List Int} (hR : w'.ownsRow B 2 1 ov' O'.length (O'.map qEI)) (t : To ov.ownBlock.toList ov'.ownBlock.toList w w') : NumS B b w' v o X ov' O' ∧ Below B w w' :=
  ⟨⟨h.Q.grown t (fun k hk hm => h.ne k hm hk), hR, fun k hk hm => by
    rcases t.new k hk with q | q
    · exact h.ne k q hm
    · have := (h.Q.foot k hm).2; omega⟩, t.below (fun k hk => (own_foot h.R k hk).1) (by have := h.Q.lt; have := h.Q.ge; omega)⟩
theorem putI_ok (h : NumS B b w v o X ov O) (x : Int) (hl : X.length < 1024) : Calls Try.prog 15 #[.pointer (some ⟨b, 0, none⟩), .int .i64 x] w fun e w' => ∃ v' o', e = .returned (.int .i64 0) ∧ NumS B b w' v' o' (X ++ [x]) ov O ∧ Below B w w' :=
  (putI_any x h.Q).mono (by
    rintro e w2 ⟨v', o', X', rfl, rfl, hQ, hto⟩
    rw [if_pos hl] at hQ ⊢
    exact ⟨v', o', rfl, h.putQ hQ hto⟩)
theorem takeI_some {x : Int} {t : List Int} (h : NumS B b w v o (x :: t) ov O) : Calls Try.prog 16 #[.pointer (some ⟨b, 0, none⟩)] w fun e w' => ∃ v' o', e = .returned (.tuple #[.int .i64 x, .bool true]) ∧ NumS B b w' v' o' t ov O ∧ Below B w w' :=
  (takeI_any h.Q).mono (by
    rintro e w2 ⟨v', o', rfl, hQ, hto⟩
    exact ⟨v', o', rfl, h.putQ hQ hto⟩)
theorem app_one (h : NumS B b w v o X ov O) (x : Int) (hl : O.length ≤ 1000) :
    ∃ ov' w', (∀ ty, (Builtin.append_ #[37, 37] ty #[ov, .slice (some ⟨w.heap.size, 0, none⟩) 1 1]).run Try.prog (w.alloc (.cells #[.int .i64 x] 2)) = .ok ov' w') ∧ NumS B b w' v o X ov' (O ++ [x]) ∧ Below B w w' := by
  obtain ⟨i0, hi, hz0, hz1, hz2⟩ := info_parts infoI
  have h1 := h.below (below_cells (.cells #[.int .i64 x] 2))
  have hB : B ≤ w.heap.size := by have := h.Q.lt; have := h.Q.ge; omega
  obtain ⟨ov', w', hr, hR, hto⟩ := own_append (P := Try.prog) (news := [.int .i64 x]) (a := ⟨w.heap.size, 0, none⟩) (m := 1) (c := 1) h1.R Try.underlying37 hi hz0 hz1 hz2 rfl (by decide) rfl (by intro u hu; simp at hu; subst hu; rfl) (by
    intro j u hj
    rcases j with _ | j
    · injection hj with hj
      subst hj
      have e : (⟨w.heap.size, 0, none⟩ : Addr).add 0 = ⟨w.heap.size, 0, none⟩ := rfl
      rw [e]
      exact (At.nw w [.int .i64 x] 2).cell 0 _ rfl
    · cases hj) (by omega) (by simp; omega)
  have hP := h1.putR (O' := O ++ [x]) (by rw [List.length_append, List.map_append]; exact hR) hto
  exact ⟨ov', w', hr, hP.1, ((Below.refl _ w).alloc hB _).trans hP.2⟩
theorem app_all (h : NumS B b w v o X ov O) {C : Nat} {r : Value} (hr : w.ownsRow C 2 1 r X.length (X.map qEI)) (hl : O.length + X.length ≤ 1000) :
    ∃ oa oc w', (∀ ty, (Builtin.append_ #[37, 37] ty #[ov, r]).run Try.prog w = .ok (.slice oa (O ++ X).length oc) w') ∧ w'.ownsRow B 2 1 (.slice oa (O ++ X).length oc) (O ++ X).length ((O ++ X).map qEI) ∧ Below B w w' := by
  obtain ⟨i0, hi, hz0, hz1, hz2⟩ := info_parts infoI
  have hB : B ≤ w.heap.size := by have := h.Q.lt; have := h.Q.ge; omega
  have form : ∀ {w' : World} {u : Value}, w'.ownsRow B 2 1 u (O ++ X).length ((O ++ X).map qEI) → ∃ oa oc, u = .slice oa (O ++ X).length oc := fun {w' u} q => by
    rcases q.2 with ⟨rfl, h0⟩ | ⟨g, cap, cur, rfl, _⟩
    · rw [h0]; exact ⟨_, _, rfl⟩
    · exact ⟨_, _, rfl⟩
  rcases id hr.2 with ⟨rfl, h0⟩ | ⟨g, cap, cur, rfl, _⟩
  · obtain rfl : X = [] := List.eq_nil_of_length_eq_zero h0
    have hR : w.ownsRow B 2 1 ov (O ++ []).length ((O ++ []).map qEI) := by rw [List.append_nil]; exact h.R
    obtain ⟨oa, oc, rfl⟩ := form hR
    exact ⟨oa, oc, w, fun ty => run_append_owned_none (P := Try.prog) (w := w) B 37 ty 2 i0 1 Try.underlying37 hi _ _ _ h.R, hR, Below.refl _ _⟩
  · obtain ⟨ov', w', hrun, hR, hto⟩ := own_append (P := Try.prog) (news := X.map qEI) (a := ⟨g, 0, none⟩) (m := X.length) (c := cap) h.R Try.underlying37 hi hz0 hz1 hz2 rfl (by decide) (by simp) (by
      intro u hu
      obtain ⟨y, _, rfl⟩ := List.mem_map.1 hu
      rfl) (fun j u hj => World.ownsRow.cells hr (g := g) rfl j u hj) (by omega) hB
    have hR2 : w'.ownsRow B 2 1 ov' (O ++ X).length ((O ++ X).map qEI) := by rw [List.length_append, List.map_append]; exact hR
    obtain ⟨oa, oc, rfl⟩ := form hR2
    exact ⟨oa, oc, w', hrun, hR2, hto.below (fun k hk => (own_foot h.R k hk).1) hB⟩
end
set_option maxHeartbeats 8000000 in
theorem any (a0 : Option Addr) (c0 : Nat) (L : List Int) (a1 : Option Addr) (c1 : Nat) (T : List Bool) (w : World) (hL : Ns .i64 w a0 L) (hT : Bls w (.slice a1 T.length c1) T) :
    Calls Try.prog 4 #[.slice a0 L.length c0, .slice a1 T.length c1] w fun e w' => e = .returned (.bool true) ∧ Below w.heap.size w w' := by
  have KN := Lib.hid (known_any w)
  have NW := Lib.hid (fun u => newI_any 1024 u)
  have HL := Lib.hid hL
  have HT := Lib.hid hT
  clear hL hT
  by_cases h100 : L.length ≤ 100
  rotate_left
  · have q0 : (100 : Int) < (L.length : Int) := by omega
    go_enter Try.func4, Try.ntmps4
    go_wp2_with fail
    refine KN.out.mono ?_
    rintro e w1 ⟨rfl, hb1⟩
    go_wp2
    go_ret
    exact ⟨rfl, hb1⟩
  by_cases h200 : T.length ≤ 200
  rotate_left
  · have q0 : ¬ (100 : Int) < (L.length : Int) := by omega
    have q1 : (200 : Int) < (T.length : Int) := by omega
    go_enter Try.func4, Try.ntmps4
    go_wp2_with fail
    refine KN.out.mono ?_
    rintro e w1 ⟨rfl, hb1⟩
    go_wp2
    go_ret
    exact ⟨rfl, hb1⟩
  have q0 : ¬ (100 : Int) < (L.length : Int) := by omega
  have q1 : ¬ (200 : Int) < (T.length : Int) := by omega
  go_enter Try.func4, Try.ntmps4
  go_wp2_with fail
  refine KN.out.mono ?_
  rintro e w1 ⟨rfl, hb1⟩
  have HB := Lib.hid hb1
  clear hb1
  go_wp2_with fail
  refine (NW.out _).mono ?_
  rintro e w2 (⟨-, rfl, hQ, hb⟩ | ⟨hn, -⟩)
  rotate_left
  · exact absurd ⟨by omega, by omega⟩ hn
  have HS : Hid (NumS w1.heap.size w1.heap.size w2 (.slice none 0 0) none [] (.slice none 0 0) []) := ⟨hQ, World.ownsRow_nil _ _ _ _, by intro k hk; simp [Value.ownBlock] at hk⟩
  have HB2 := Lib.hid (below_then HB.out hb)
  have hbw : w.heap.size ≤ w1.heap.size := HB.out.size
  clear hQ hb HB NW KN q0 q1
  go_wp2
  go_loopw [7, 8, 9, 10] (fun ov i f g wr => ∃ (k : Nat) (v : Value) (o : Option Nat) (X : List Int) (oa : Option Addr) (oc : Nat) (O : List Int), i = .int .i64 (k : Int) ∧ k ≤ L.length ∧ ov = .slice oa O.length oc ∧ O ++ X = L.take k ∧ NumS w1.heap.size w1.heap.size wr v o X (.slice oa O.length oc) O ∧ Below w.heap.size w wr) (fun _ i _ _ _ => L.length - (intOf i).toNat)
  case atStart => exact ⟨0, _, _, [], none, 0, [], rfl, Nat.zero_le _, rfl, rfl, HS.out, HB2.out⟩
  case round =>
    obtain ⟨k, v, o, X, oa, oc, O, rfl, hk, rfl, hOX, hS, hB⟩ := hrel
    by_cases hlt : k < L.length
    · obtain ⟨x, hx⟩ : ∃ x, L[k]? = some x := ⟨_, List.getElem?_eq_getElem hlt⟩
      obtain ⟨b, off, rfl, hb, hcs⟩ := Nsat HL.out hx
      have hc := hcs wr hB
      have h0k : (0 : Int) ≤ (k : Int) := by omega
      have h1k : (k : Int) < (L.length : Int) := by omega
      have hw1 : wrap64 ((k : Int) + 1) = (k : Int) + 1 := by rw [wr64] <;> omega
      have hlen : O.length + X.length = k := by
        have := congrArg List.length hOX
        rw [List.length_append, List.length_take] at this
        omega
      have hOX1 : (O ++ X) ++ [x] = L.take (k + 1) := by
        obtain ⟨hn1, he1⟩ := List.getElem?_eq_some_iff.1 hx
        rw [hOX, List.take_succ_eq_append_getElem hn1, he1]
      have C := Lib.hid (putI_ok hS x (by omega))
      have HB := Lib.hid hB
      have HJ := Lib.hid hlt
      have HX := Lib.hid hOX1
      have HN := Lib.hid hlen
      clear hB hS hx hOX hOX1 hk hlt hlen hcs HB2 HS
      by_cases htl : k < T.length
      · obtain ⟨t, ht⟩ : ∃ t, T[k]? = some t := ⟨_, List.getElem?_eq_getElem htl⟩
        obtain ⟨bt, offt, rfl, hbt, hct⟩ := HT.out.at ht
        have hct := Lib.hid hct
        have h2k : (k : Int) < (T.length : Int) := by omega
        clear htl ht
        cases t
        · go_wp2_with fail
          refine C.out.mono ?_
          rintro e w3 ⟨v3, o3, rfl, hS3, hb3⟩
          have HB3 := Lib.hid (HB.out.trans (hb3.mono hbw))
          have hc3 := hct.out w3 HB3.out
          clear hc hb3
          go_wp2
          go_roundw
          case rel => exact ⟨k + 1, v3, o3, _, oa, oc, O, by first | rfl | (rw [hw1]; rfl), HJ.out, rfl, by rw [← List.append_assoc]; exact HX.out, hS3, HB3.out⟩
          case measure => first | exact meas16 HJ.out | (rw [hw1]; exact meas16 HJ.out)
        · go_wp2_with fail
          refine C.out.mono ?_
          rintro e w3 ⟨v3, o3, rfl, hS3, hb3⟩
          have HB3 := Lib.hid (HB.out.trans (hb3.mono hbw))
          have hc3 := hct.out w3 HB3.out
          obtain ⟨y, t, hyt⟩ : ∃ y t, X ++ [x] = y :: t := by cases X <;> exact ⟨_, _, rfl⟩
          rw [hyt] at hS3
          have C := Lib.hid (takeI_some hS3)
          have HY := Lib.hid hyt
          clear hc hb3 hyt hS3
          go_wp2_with fail
          refine C.out.mono ?_
          rintro e w4 ⟨v4, o4, rfl, hS4, hb4⟩
          have HB4 := Lib.hid (HB3.out.trans (hb4.mono hbw))
          obtain ⟨ov', w5, hr, hS5, hb5⟩ := app_one hS4 y (by have := HN.out; omega)
          have HR := Lib.hid hr
          obtain ⟨oa', oc', rfl⟩ : ∃ oa' oc', ov' = .slice oa' (O ++ [y]).length oc' := by
            have := hS5.R
            rw [List.length_append] at this ⊢
            obtain ⟨g, cap, e⟩ := own_some1 this (by simp)
            exact ⟨_, _, e⟩
          have HB5 := Lib.hid (HB4.out.trans (hb5.mono hbw))
          clear hr hb5 hb4 hS4
          go_wp2_with (refine Go.Lib.wpList_append_run _ rfl _ _ _ _ rfl _ _ rfl rfl _ _ (HR.out _) ?_)
          go_roundw
          case rel => exact ⟨k + 1, v4, o4, t, oa', oc', O ++ [y], by first | rfl | (rw [hw1]; rfl), HJ.out, by rw [List.length_append]; rfl, by rw [List.append_assoc, List.singleton_append, ← HY.out, ← List.append_assoc]; exact HX.out, hS5, HB5.out⟩
          case measure => first | exact meas16 HJ.out | (rw [hw1]; exact meas16 HJ.out)
      · have h2k : (T.length : Int) ≤ (k : Int) := by omega
        clear htl
        go_wp2_with fail
        refine C.out.mono ?_
        rintro e w3 ⟨v3, o3, rfl, hS3, hb3⟩
        have HB3 := Lib.hid (HB.out.trans (hb3.mono hbw))
        clear hc hb3
        go_wp2
        go_roundw
        case rel => exact ⟨k + 1, v3, o3, _, oa, oc, O, by first | rfl | (rw [hw1]; rfl), HJ.out, rfl, by rw [← List.append_assoc]; exact HX.out, hS3, HB3.out⟩
        case measure => first | exact meas16 HJ.out | (rw [hw1]; exact meas16 HJ.out)
    · obtain rfl : k = L.length := by omega
      rw [List.take_length] at hOX
      have h1k : ¬ (L.length : Int) < (L.length : Int) := by omega
      have hlen : O.length + X.length ≤ 1000 := by
        have := congrArg List.length hOX
        rw [List.length_append] at this
        omega
      have C := Lib.hid (allI_any hS.Q)
      have HS := Lib.hid hS
      have HB := Lib.hid hB
      have HX := Lib.hid hOX
      have HN := Lib.hid hlen
      clear hB hS hOX hk hlt hlen HB2
      go_wp2_with fail
      refine C.out.mono ?_
      rintro e w3 ⟨r, rfl, hr, hb3⟩
      have hS3 := HS.out.below hb3
      have HB3 := Lib.hid (HB.out.trans (hb3.mono HB.out.size))
      obtain ⟨oa', oc', w4, hrun, hR, hb4⟩ := app_all hS3 hr HN.out
      rw [HX.out] at hrun hR
      have HR := Lib.hid hrun
      have HB4 := Lib.hid (HB3.out.trans (hb4.mono hbw))
      obtain ⟨ra, rc, rfl⟩ : ∃ ra rc, r = .slice ra X.length rc := by
        rcases hr.2 with ⟨rfl, h0⟩ | ⟨g, cap, cur, rfl, _⟩
        · rw [h0]; exact ⟨_, _, rfl⟩
        · exact ⟨_, _, rfl⟩
      have HO := Lib.hid hR
      clear hb3 hb4 hr hS3 hrun hR HS C HN HX
      go_wp2_with (refine Go.Lib.wpList_append_run _ rfl _ _ _ _ rfl _ _ rfl rfl _ _ (HR.out _) ?_)
      go_loopw [11] (fun i wr => ∃ j : Nat, i = .int .i64 (j : Int) ∧ j ≤ L.length ∧ Below w4.heap.size w4 wr) (fun i _ => L.length - (intOf i).toNat)
      case atStart => exact ⟨0, rfl, Nat.zero_le _, Below.refl _ _⟩
      case round =>
        obtain ⟨j, rfl, hj, hW⟩ := hrel
        by_cases hjl : j < L.length
        · obtain ⟨x, hx⟩ : ∃ x, L[j]? = some x := ⟨_, List.getElem?_eq_getElem hjl⟩
          obtain ⟨b, off, rfl, hb, hcs⟩ := Nsat HL.out hx
          have hc := hcs _ (below_then HB4.out hW)
          obtain ⟨g, cap, e⟩ := own_some1 HO.out (by omega)
          injection e with e1 e2 e3
          subst e1 e3
          have hgl := (World.ownsRow.lt HO.out g rfl).2
          have hd : wr.cell? ⟨g, j, none⟩ = some (.int .i64 x) := by
            have := World.ownsRow.cells HO.out (g := g) rfl j (.int .i64 x) (by rw [List.getElem?_map, hx]; rfl)
            rw [Addr.add_lit, Nat.zero_add] at this
            exact (hW.cell (p := ⟨g, j, none⟩) hgl).trans this
          have h1 : (j : Int) < (L.length : Int) := by omega
          have h0 : (0 : Int) ≤ (j : Int) := by omega
          have hj1 : wrap64 ((j : Int) + 1) = (j : Int) + 1 := by rw [wr64] <;> omega
          have HJ := Lib.hid hjl
          have HW := Lib.hid hW
          clear hj hjl hx hcs hW h1k
          go_wp2
          go_quiet (fail)
          all_goals go_wp2
          all_goals go_roundw
          all_goals first
            | exact ⟨j + 1, by first | rfl | (rw [hj1]; rfl), HJ.out, ⟨HW.out.os, HW.out.tape, HW.out.output, HW.out.size, HW.out.block⟩⟩
            | exact meas16 HJ.out
            | (rw [hj1]; exact meas16 HJ.out)
        · obtain rfl : j = L.length := by omega
          have HW := Lib.hid hW
          clear hj hjl hW
          go_wp2
          go_ret
          exact ⟨rfl, below_then HB4.out HW.out⟩
end LawQueueNumbers
end Go.Proofs.Ytdgjcahgoilahaa
