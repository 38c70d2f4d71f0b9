/- belfrylaw15.SourceLeast: it answers true. -/
import Derived.Test.YtpmiakfnchkccaaDoorLm
import Derived.Test.YtpmiakfnchkccaaDoorNs
namespace Go.Proofs.YtpmiakfnchkccaaDoor
open Go Go.Proofs Go.RowKit Go.Shelf
set_option maxRecDepth 100000
attribute [local go_sem] cell_set Oper.semAt_some
theorem u16_at {l : List Int} (hl : ∀ y ∈ l, (Lit.int .u16 y).wf = true) {j : Nat} (hj : j < l.length) : l[j]? = some (tAt l j) ∧ 0 ≤ tAt l j ∧ tAt l j ≤ 65535 := by
  have e : l[j]? = some (tAt l j) := by unfold tAt; rw [List.getD_eq_getElem?_getD, List.getElem?_eq_getElem hj]; rfl
  exact ⟨e, wf_u16 (hl _ (List.mem_of_getElem? e))⟩
/-- a number of the argument, in every world behind -/
theorem ns_cells {w : World} {a : Option Addr} {l : List Int} (h : Ns .u16 w a l) (hn : 0 < l.length) : ∃ b off, a = some ⟨b, off, none⟩ ∧ ∀ W, Below w.heap.size w W → ∀ j, j < l.length → W.cell? ⟨b, off + j, none⟩ = some (.int .u16 (tAt l j)) := by
  rcases h with rfl | ⟨b, off, e, hlt, hc⟩
  · cases hn
  · refine ⟨b, off, e, fun W hW j hj => (hW.cell (p := ⟨b, off + j, none⟩) hlt).trans (hc j _ ?_)⟩
    unfold tAt; rw [List.getD_eq_getElem?_getD, List.getElem?_eq_getElem hj]; rfl
theorem tmod_nat (x : Int) (hx : 0 ≤ x) (n : Nat) (hn : 0 < n) : ∃ z : Nat, z < n ∧ Int.tmod x (n : Int) = (z : Int) := by
  obtain ⟨m, rfl⟩ := Int.eq_ofNat_of_zero_le hx
  exact ⟨m % n, Nat.mod_lt _ hn, rfl⟩
/-- what the first loop has -/
structure LsI (l : List Int) (z k : Nat) (least rest : Int) : Prop where
  a : 0 ≤ least ∧ least ≤ 65535
  b : 0 ≤ rest ∧ rest ≤ 1099511627776
  c : least ≤ tAt l z
  d : ∀ j, j < k → least ≤ tAt l j
  e : ∀ j, j < k → j ≠ z → rest ≤ tAt l j
  f : (∃ j, j < k ∧ j ≠ z ∧ rest = tAt l j) ∨ (rest = 1099511627776 ∧ ∀ j, j < k → j = z)
theorem lsi_start {l : List Int} {z : Nat} (h : 0 ≤ tAt l z ∧ tAt l z ≤ 65535) : LsI l z 0 (tAt l z) 1099511627776 :=
  ⟨h, by omega, Int.le_refl _, fun j h => by omega, fun j h => by omega, .inr ⟨rfl, fun j h => by omega⟩⟩
theorem lsi_skip {l : List Int} {z k : Nat} {least rest : Int} (h : LsI l z k least rest) (hk : k = z) : LsI l z (k + 1) least rest :=
  ⟨h.a, h.b, h.c, fun j hj => by
    by_cases e : j = k
    · rw [e, hk]; exact h.c
    · exact h.d j (by omega), fun j hj hz => h.e j (by omega) hz, h.f.imp (fun ⟨j, a, b, c⟩ => ⟨j, by omega, b, c⟩) (fun q => ⟨q.1, fun j hj => by
    by_cases e : j = k
    · omega
    · exact q.2 j (by omega)⟩)⟩
theorem lsi_step {l : List Int} {z k : Nat} {least rest : Int} (h : LsI l z k least rest) (hk : k ≠ z) (ht : 0 ≤ tAt l k ∧ tAt l k ≤ 65535) : LsI l z (k + 1) (if tAt l k < least then tAt l k else least) (if tAt l k < rest then tAt l k else rest) := by
  have ha := h.a
  have hb := h.b
  have hc := h.c
  refine ⟨by split <;> omega, by split <;> omega, by split <;> omega, fun j hj => ?_, fun j hj hz => ?_, ?_⟩
  · by_cases e : j = k
    · rw [e]; split <;> omega
    · have := h.d j (by omega); split <;> omega
  · by_cases e : j = k
    · rw [e]; split <;> omega
    · have := h.e j (by omega) hz; split <;> omega
  · left
    by_cases hl : tAt l k < rest
    · rw [if_pos hl]; exact ⟨k, by omega, hk, rfl⟩
    · rw [if_neg hl]
      rcases h.f with ⟨j, a, b, c⟩ | q
      · exact ⟨j, by omega, b, c⟩
      · exfalso; omega
set_option maxHeartbeats 8000000 in
theorem least_any (a : Option Addr) (cap : Nat) (l : List Int) (x1 x2 : Int) (b1 : 0 ≤ x1 ∧ x1 ≤ 255) (b2 : 0 ≤ x2 ∧ x2 ≤ 255) (w : World) (hL : Ns .u16 w a l) (hO : ∀ y ∈ l, (Lit.int .u16 y).wf = true) :
    Calls Tryd.prog 5 #[.slice a l.length cap, .int .u8 x1, .int .u8 x2] w fun e w' => e = .returned (.bool true) ∧ Below w.heap.size w w' := by
  have KN := Lib.hid (known_any w)
  by_cases h2 : l.length < 2
  · have q0 : (l.length : Int) < 2 := by omega
    clear hL hO
    go_enter Tryd.func5, Tryd.ntmps5
    go_wp2_with fail
    refine KN.out.mono ?_
    rintro e w0 ⟨rfl, hb0⟩
    have HB0 := Lib.hid hb0
    clear hb0 KN
    go_wp2
    go_ret
    exact ⟨rfl, HB0.out⟩
  by_cases h16 : 16 < l.length
  · have q0 : ¬ (l.length : Int) < 2 := by omega
    have q1 : (16 : Int) < (l.length : Int) := by omega
    clear hL hO
    go_enter Tryd.func5, Tryd.ntmps5
    go_wp2_with fail
    refine KN.out.mono ?_
    rintro e w0 ⟨rfl, hb0⟩
    have HB0 := Lib.hid hb0
    clear hb0 KN
    go_wp2
    go_ret
    exact ⟨rfl, HB0.out⟩
  have q0 : ¬ (l.length : Int) < 2 := by omega
  have q1 : ¬ (16 : Int) < (l.length : Int) := by omega
  have N0 := Lib.hid (fun W => new_any x1 2 W)
  have hnw : Hid (NewOk x1 2) := ⟨by omega, by decide⟩
  obtain ⟨z, hz, hrem⟩ := tmod_nat x2 b2.1 l.length (by omega)
  obtain ⟨b, off, rfl, hcs⟩ := ns_cells hL (by omega)
  have CS := Lib.hid hcs
  obtain ⟨-, tz1, tz2⟩ := u16_at hO hz
  have HU := Lib.hid (fun (j : Nat) (hj : j < l.length) => (u16_at hO hj).2)
  have hwl : wrap64 x1 = x1 := by rw [wr64] <;> omega
  have hws : wrap64 x2 = x2 := by rw [wr64] <;> omega
  have hwz : wrap64 ((z : Int) + 1) = (z : Int) + 1 := by rw [wr64] <;> omega
  have hwt : wrap64 (tAt l z) = tAt l z := by rw [wr64] <;> omega
  have hz0 : (0 : Int) ≤ (z : Int) := by omega
  have hz1 : (z : Int) < (l.length : Int) := by omega
  have ST := Lib.hid (lq_start (l := l) (late := x1) (z := z) (by omega) ⟨tz1, tz2⟩)
  have hne : ((l.length : Int) == 0) = false := by rw [beq_eq_false_iff_ne]; omega
  clear hL hO hcs
  go_enter Tryd.func5, Tryd.ntmps5
  go_wp2_with fail
  refine KN.out.mono ?_
  rintro e w0 ⟨rfl, hb0⟩
  have HB0 := Lib.hid hb0
  clear hb0 KN
  go_wp2_with fail
  refine (N0.out _).mono ?_
  rintro e w1 (⟨-, rfl, hT, hb⟩ | ⟨hn, -⟩)
  rotate_left
  · exact absurd hnw.out hn
  have HT1 := Lib.hid hT
  have HB1 := Lib.hid (below_then HB0.out hb)
  have hbw : w.heap.size ≤ w0.heap.size := HB0.out.size
  have cz := CS.out w1 HB1.out z hz
  clear hT hb N0 HB0
  have AT := Lib.hid (fun u => at_any ((z : Int) + 1) 1 (tAt l z) u)
  go_wp2_with fail
  refine (AT.out _).mono ?_
  rintro e w2 ⟨g, rfl, hI, hba⟩
  have hK0 : TbOk 0 (newT x1 2) := new_ok hnw.out
  have PT := Lib.hid (kput (c := 0) hK0 (by decide) ST.out.1 rfl (some ⟨g, 0, none⟩) 1 1 0 w2 (VAt.below HT1.out hba) hI)
  have HB2 := Lib.hid (HB1.out.trans (hba.mono HB1.out.size))
  clear hba hI AT cz
  go_wp2_with fail
  refine PT.out.mono ?_
  rintro e w3 ⟨rfl, hT3, hg3⟩
  have hK1 : TbOk 0 (putA (newT x1 2) [mx] (tAt l z) ((z : Int) + 1) 1) := putA_ok hK0 _ _ _ _
  have HB3 := Lib.hid (below_g HB2.out hg3 hbw (Nat.le_refl _))
  have TK := Lib.hid (tick_any w0.heap.size _ hK1 (by decide) w3 hT3)
  have hLq := ST.out.2
  have hK2 := tick_ok hK1
  generalize tickT (putA (newT x1 2) [mx] (tAt l z) ((z : Int) + 1) 1) = A1 at *
  clear PT hT3 hg3
  go_wp2_with fail
  refine TK.out.mono ?_
  rintro e w4 ⟨⟨v4, rfl⟩, hT4, hg4⟩
  have HB4 := Lib.hid (below_g HB3.out hg4 hbw (Nat.le_refl _))
  have FR := Lib.hid (frontier_any w0.heap.size A1 w4 hT4)
  have HT4 := Lib.hid hT4
  have cz := CS.out w4 HB4.out z hz
  have HLq := Lib.hid hLq
  have HK2 := Lib.hid hK2
  clear TK hT4 hg4 hLq hK1 hK0 ST hK2
  go_wp2_with fail
  refine FR.out.mono ?_
  rintro e w5 ⟨rfl, hw5⟩
  cases hw5
  go_wp2
  have HWL := Lib.hid hwl
  clear hrem hz0 hz1 hwz hwt hws hwl hne
  go_loopw [12, 13, 14] (fun le re i wr => ∃ (k : Nat) (least rest : Int), le = .int .i64 least ∧ re = .int .i64 rest ∧ i = .int .i64 (k : Int) ∧ k ≤ l.length ∧ LsI l z k least rest ∧ wr = w4) (fun _ _ i _ => l.length - (intOf i).toNat)
  case atStart => exact ⟨0, _, _, rfl, rfl, rfl, Nat.zero_le _, lsi_start ⟨tz1, tz2⟩, rfl⟩
  case round =>
    obtain ⟨k, least, rest, rfl, rfl, rfl, hk, hI, rfl⟩ := hrel
    by_cases hlt : k < l.length
    · have h0k : (0 : Int) ≤ (k : Int) := by omega
      have h1k : (k : Int) < (l.length : Int) := by omega
      have hw1 : wrap64 ((k : Int) + 1) = (k : Int) + 1 := by rw [wr64] <;> omega
      have HI := Lib.hid hI
      obtain ⟨tk1, tk2⟩ := HU.out k hlt
      have ck := CS.out wr HB4.out k hlt
      have hwk : wrap64 (tAt l k) = tAt l k := by rw [wr64] <;> omega
      clear hI cz
      by_cases hkz : k = z
      · subst hkz
        have HS := Lib.hid (lsi_skip HI.out rfl)
        clear HI hwk ck
        go_wp2
        go_roundw
        case rel => exact ⟨k + 1, least, rest, rfl, rfl, by go_num, by omega, HS.out, by trivial⟩
        case measure => simp [intOf]; omega
      · have ez : ((k : Int) == (z : Int)) = false := beq_eq_false_iff_ne.2 (fun h => hkz (Int.ofNat.inj h))
        by_cases hf : tAt l k < A1.front
        · have df : decide (tAt l k < A1.front) = true := by simpa using hf
          clear hf
          go_wp2
          go_ret
          exact ⟨rfl, HB4.out⟩
        · have df : decide (tAt l k < A1.front) = false := by simpa using hf
          clear hf
          by_cases hl1 : tAt l k < least
          · have d1 : decide (tAt l k < least) = true := by simpa using hl1
            by_cases hl2 : tAt l k < rest
            · have d2 : decide (tAt l k < rest) = true := by simpa using hl2
              clear hl1 hl2
              go_wp2
              go_roundw
              case rel =>
                have HS := lsi_step HI.out hkz ⟨tk1, tk2⟩
                rw [if_pos (of_decide_eq_true d1), if_pos (of_decide_eq_true d2)] at HS
                exact ⟨k + 1, _, _, rfl, rfl, by go_num, by omega, HS, by trivial⟩
              case measure => simp [intOf]; omega
            · have d2 : decide (tAt l k < rest) = false := by simpa using hl2
              clear hl1 hl2
              go_wp2
              go_roundw
              case rel =>
                have HS := lsi_step HI.out hkz ⟨tk1, tk2⟩
                rw [if_pos (of_decide_eq_true d1), if_neg (of_decide_eq_false d2)] at HS
                exact ⟨k + 1, _, _, rfl, rfl, by go_num, by omega, HS, by trivial⟩
              case measure => simp [intOf]; omega
          · have d1 : decide (tAt l k < least) = false := by simpa using hl1
            by_cases hl2 : tAt l k < rest
            · have d2 : decide (tAt l k < rest) = true := by simpa using hl2
              clear hl1 hl2
              go_wp2
              go_roundw
              case rel =>
                have HS := lsi_step HI.out hkz ⟨tk1, tk2⟩
                rw [if_neg (of_decide_eq_false d1), if_pos (of_decide_eq_true d2)] at HS
                exact ⟨k + 1, _, _, rfl, rfl, by go_num, by omega, HS, by trivial⟩
              case measure => simp [intOf]; omega
            · have d2 : decide (tAt l k < rest) = false := by simpa using hl2
              clear hl1 hl2
              go_wp2
              go_roundw
              case rel =>
                have HS := lsi_step HI.out hkz ⟨tk1, tk2⟩
                rw [if_neg (of_decide_eq_false d1), if_neg (of_decide_eq_false d2)] at HS
                exact ⟨k + 1, _, _, rfl, rfl, by go_num, by omega, HS, by trivial⟩
              case measure => simp [intOf]; omega
    · obtain rfl : k = l.length := by omega
      have HI := Lib.hid hI
      have h1k : ¬ (l.length : Int) < (l.length : Int) := by omega
      clear hI cz
      go_wp2
      go_loopw [16] (fun i wr2 => ∃ (k : Nat) (A : Tb), i = .int .i64 (k : Int) ∧ k ≤ l.length ∧ Lq l x1 z k A ∧ TbOk 1 A ∧ TAt wr2 w0.heap.size A ∧ Below w.heap.size w wr2) (fun i _ => l.length - (intOf i).toNat)
      case atStart => exact ⟨0, A1, rfl, Nat.zero_le _, HLq.out, HK2.out.mono (by decide), HT4.out, HB4.out⟩
      case round =>
        obtain ⟨k, A, rfl, hk, hQ, hA, hT, hB⟩ := hrel
        by_cases hlt : k < l.length
        · have h0k : (0 : Int) ≤ (k : Int) := by omega
          have h2k : (k : Int) < (l.length : Int) := by omega
          have hw1 : wrap64 ((k : Int) + 1) = (k : Int) + 1 := by rw [wr64] <;> omega
          have HQ := Lib.hid hQ
          have HA := Lib.hid hA
          have HT := Lib.hid hT
          have HB := Lib.hid hB
          obtain ⟨tk1, tk2⟩ := HU.out k hlt
          have ck := CS.out _ hB k hlt
          have hwk : wrap64 (tAt l k) = tAt l k := by rw [wr64] <;> omega
          clear hQ hA hT hB h1k
          by_cases hkz : k = z
          · subst hkz
            clear hwk ck
            go_wp2
            go_roundw
            case rel => exact ⟨k + 1, A, by go_num, by omega, lq_skip HQ.out, HA.out, HT.out, HB.out⟩
            case measure => simp [intOf]; omega
          · have ez : ((k : Int) != (z : Int)) = true := by simp; omega
            have AT := Lib.hid (fun u => at_any ((k : Int) + 1) 1 (tAt l k) u)
            go_wp2_with fail
            refine (AT.out _).mono ?_
            rintro e w6 ⟨g6, rfl, hI6, hba⟩
            have HB6 := Lib.hid (HB.out.trans (hba.mono HB.out.size))
            have hT6 := VAt.below HT.out hba
            clear AT
            have hpp := lq_put HQ.out (show k < 16 by omega) hkz ⟨tk1, tk2⟩
            rcases hpp with ⟨hc, hq⟩ | ⟨hc, ha, hl⟩
            · have PT := Lib.hid (kput (c := 0) HA.out (by decide) hc rfl (some ⟨g6, 0, none⟩) 1 1 0 w6 hT6 hI6)
              have HQ2 := Lib.hid hq
              have HA2 := Lib.hid (putA_ok HA.out [mx] (tAt l k) ((k : Int) + 1) 1)
              generalize putA A [mx] (tAt l k) ((k : Int) + 1) 1 = A2 at *
              clear hc hq hba hI6 hT6 ck
              go_wp2_with fail
              refine PT.out.mono ?_
              rintro e w7 ⟨rfl, hT7, hg7⟩
              have HB7 := Lib.hid (below_g HB6.out hg7 hbw (Nat.le_refl _))
              have HT7 := Lib.hid hT7
              clear hT7 hg7 PT
              go_wp2
              go_roundw
              case rel => exact ⟨k + 1, A2, by go_num, by omega, HQ2.out, HA2.out, HT7.out, HB7.out⟩
              case measure => simp [intOf]; omega
            · have PT := Lib.hid (kput (c := 9) HA.out (by decide) hc ha (some ⟨g6, 0, none⟩) 1 1 0 w6 hT6 hI6)
              have dl : decide (tAt l k < A.front) = true := by simpa using hl
              clear hc ha hl hba hI6 hT6 ck
              go_wp2_with fail
              refine PT.out.mono ?_
              rintro e w7 ⟨rfl, hT7, hg7⟩
              have HB7 := Lib.hid (below_g HB6.out hg7 hbw (Nat.le_refl _))
              have HT7 := Lib.hid hT7
              have ck := CS.out _ HB7.out k hlt
              clear hT7 hg7 PT
              have hwI : IntKind.i64.wrap (tAt l k) = tAt l k := by rw [IntKind.wrap_i64]; omega
              have cd : w7.drew.cell? ⟨b, off + k, none⟩ = some (.int .u16 (tAt l k)) := ck
              go_wp2_with fail
              refine wp_region_held_drew (S := fun u => u.cell? ⟨b, off + k, none⟩ = some (.int .u16 (tAt l k)) ∧ TAt u w0.heap.size A ∧ Below w.heap.size w u) (by kernel_rfl) ⟨cd, VAt.drew HT7.out, HB7.out.drew⟩ (fun hS => ?_)
              generalize w7.drew = w8 at *
              clear cd ck
              refine tkH 0 hS ?_
              refine tkH 1 hS ?_
              refine tkH 2 (v := .pointer (some ⟨b, off + k, none⟩)) hS ?_
              refine tkC 3 hS (fun u h => h.1) ?_
              refine tkH 4 (v := .int .i64 (tAt l k)) hS ?_
              refine tkH 5 hS ?_
              refine anyH_1 6 (fun K hK => ?_)
              go_simp
              go_at_call 18
              refine (frontier_any w0.heap.size A _ hS.2.1).mono ?_
              rintro e w9 ⟨rfl, hw9⟩
              cases hw9
              dsimp only
              refine hK.out _ _ hS (fun hS => ?_)
              clear hK K
              refine tkH 7 (v := .bool true) hS ?_
              refine tkH 8 hS ?_
              refine wpAnyH_done (by kernel_rfl) ?_ _
              have HE := Lib.hid hS
              clear hS
              go_wp2
              go_ret
              exact ⟨rfl, HE.out.2.2⟩
        · obtain rfl : k = l.length := by omega
          have hr2 : ∃ j, j < l.length ∧ j ≠ z ∧ rest = tAt l j := by
            rcases HI.out.f with h | ⟨-, h⟩
            · exact h
            · exfalso
              have e0 := h 0 (by omega)
              have e1 := h 1 (by omega)
              omega
          obtain ⟨end1, end2, end3⟩ := lq_end hQ ⟨by omega, by omega⟩ hz HI.out.d HI.out.e hr2
          have la := HI.out.a
          have lb := HI.out.b
          have HA := Lib.hid hA
          have FG := Lib.hid (fun u (h : TAt u w0.heap.size A) => frontier_any w0.heap.size A u h)
          have TK := Lib.hid (fun u (h : TAt u w0.heap.size A) => tick_any w0.heap.size A hA (by decide) u h)
          have FH := Lib.hid (fun u (h : TAt u w0.heap.size (tickT A)) => frontier_any w0.heap.size (tickT A) u h)
          have LI := Lib.hid (fun u (h : TAt u w0.heap.size (tickT A)) => Live_any w0.heap.size (tickT A) (tick_ok hA) (by decide) u h)
          have HT := Lib.hid hT
          have HB := Lib.hid hB
          unfold LivePost at LI
          rw [end3] at LI
          have hn1 : ((l.length - 1 : Nat) : Int) = (l.length : Int) - 1 := by omega
          generalize l.length - 1 = n1 at LI hn1
          generalize liveN (tickT A) = lv at *
          generalize tickT A = A2 at *
          generalize A.front = G at *
          generalize A2.front = H at *
          have hw1 : wrap64 (rest - x1) = rest - x1 := by rw [wr64] <;> omega
          have hw2 : wrap64 (least - x1) = least - x1 := by rw [wr64] <;> omega
          have hw3 : wrap64 ((l.length : Int) - 1) = (l.length : Int) - 1 := by rw [wr64] <;> omega
          have hg : decide (least - x1 ≤ G) = true := by simpa using end1
          have hwl := HWL.out
          clear hr2 HI hQ hA hT hB h1k end1 la lb end3
          have h2k : ¬ (l.length : Int) < (l.length : Int) := by omega
          have E2 := Lib.hid end2
          clear end2
          go_wp2_with fail
          refine (FG.out _ HT.out).mono ?_
          rintro e w6 ⟨rfl, hw6⟩
          cases hw6
          go_wp2_with fail
          refine (TK.out _ HT.out).mono ?_
          rintro e w7 ⟨⟨v7, rfl⟩, hT7, hg7⟩
          have HB7 := Lib.hid (below_g HB.out hg7 hbw (Nat.le_refl _))
          have HT7 := Lib.hid hT7
          clear hT7 hg7
          go_wp2_with fail
          refine (FH.out _ HT7.out).mono ?_
          rintro e w8 ⟨rfl, hw8⟩
          cases hw8
          by_cases hlt2 : rest - x1 < G
          · have d1 : decide (rest - x1 < G) = true := by simpa using hlt2
            have eH : (H == G) = true := by rw [beq_iff_eq, E2.out]; omega
            clear hlt2
            go_wp2_with fail
            refine (LI.out _ HT7.out).mono ?_
            rintro e w9 ⟨la, lc, rfl, hlo, hbl⟩
            have HB9 := Lib.hid (HB7.out.trans (hbl.mono HB7.out.size))
            clear hlo hbl
            go_wp2
            go_ret
            exact ⟨rfl, HB9.out⟩
          · have d1 : decide (rest - x1 < G) = false := by simpa using hlt2
            have eH : (H == rest - x1) = true := by rw [beq_iff_eq, E2.out]; omega
            clear hlt2
            go_wp2_with fail
            refine (LI.out _ HT7.out).mono ?_
            rintro e w9 ⟨la, lc, rfl, hlo, hbl⟩
            have HB9 := Lib.hid (HB7.out.trans (hbl.mono HB7.out.size))
            clear hlo hbl
            go_wp2
            go_ret
            exact ⟨rfl, HB9.out⟩
end Go.Proofs.YtpmiakfnchkccaaDoor
