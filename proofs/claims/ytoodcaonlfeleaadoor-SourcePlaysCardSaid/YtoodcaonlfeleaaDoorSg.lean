/- The document's Sources: Tick, Put. -/
import Derived.Test.YtoodcaonlfeleaaDoorSf
namespace Go.Proofs.YtoodcaonlfeleaaDoor
open Go Go.Proofs Go.RowKit Go.Shelf
set_option maxRecDepth 100000
attribute [local go_sem] cell_set Oper.semAt_some
def age4 (S : Sr) (r : R4) : R4 := if live4 S r then { r with a := r.a + 1 } else r
/-- the first m are a tick elder -/
def agedS (S : Sr) : Nat → Sr
  | 0 => S
  | m + 1 => match S.rest[m]? with | some r => { agedS S m with rest := (agedS S m).rest.set m (age4 S r) } | none => agedS S m
theorem aged_succ (S : Sr) {m : Nat} {r : R4} (hr : S.rest[m]? = some r) : agedS S (m + 1) = { agedS S m with rest := (agedS S m).rest.set m (age4 S r) } := by
  show (match S.rest[m]? with | some r => { agedS S m with rest := (agedS S m).rest.set m (age4 S r) } | none => agedS S m) = _
  rw [hr]
theorem aged_same (S : Sr) : ∀ m, (agedS S m).late = S.late ∧ (agedS S m).idle = S.idle ∧ (agedS S m).f = S.f ∧ (agedS S m).rest.length = S.rest.length := by
  intro m
  induction m with
  | zero => exact ⟨rfl, rfl, rfl, rfl⟩
  | succ m ih =>
    unfold agedS
    cases S.rest[m]? with
    | none => exact ih
    | some r => exact ⟨ih.1, ih.2.1, ih.2.2.1, by dsimp only; rw [List.length_set]; exact ih.2.2.2⟩
theorem aged_high (S : Sr) : ∀ m i, m ≤ i → (agedS S m).rest[i]? = S.rest[i]? := by
  intro m
  induction m with
  | zero => intro i _; rfl
  | succ m ih =>
    intro i hi
    unfold agedS
    cases S.rest[m]? with
    | none => exact ih i (by omega)
    | some r => dsimp only; rw [List.getElem?_set_ne (by omega)]; exact ih i (by omega)
theorem aged_low (S : Sr) : ∀ m i, i < m → (agedS S m).rest[i]? = (S.rest[i]?).map (age4 S) := by
  intro m
  induction m with
  | zero => intro i hi; omega
  | succ m ih =>
    intro i hi
    unfold agedS
    cases hr : S.rest[m]? with
    | none =>
      dsimp only
      by_cases e : i = m
      · subst e; rw [aged_high S i i (Nat.le_refl _), hr]; rfl
      · exact ih i (by omega)
    | some r =>
      dsimp only
      by_cases e : i = m
      · subst e
        have : i < (agedS S i).rest.length := by rw [(aged_same S i).2.2.2]; exact (List.getElem?_eq_some_iff.1 hr).1
        rw [List.getElem?_set_self this, hr]; rfl
      · rw [List.getElem?_set_ne (by omega)]; exact ih i (by omega)
theorem aged_all (S : Sr) (h : S.rest.length = 16) : agedS S 16 = { S with rest := S.rest.map (age4 S) } := by
  obtain ⟨a, b, c, d⟩ := aged_same S 16
  have e : (agedS S 16).rest = S.rest.map (age4 S) := by
    apply List.ext_getElem?
    intro i
    rw [List.getElem?_map]
    by_cases hi : i < 16
    · exact aged_low S 16 i hi
    · rw [aged_high S 16 i (by omega), List.getElem?_eq_none (by omega)]; rfl
  cases hS : agedS S 16 with
  | mk l i r f => rw [hS] at a b c e; simp only at a b c e; rw [a, b, c, e]
def tickS (S : Sr) : Sr := frontS { S with rest := S.rest.map (age4 S) }
theorem aged_ok {S : Sr} (h : SrOk S) : SrOk { S with rest := S.rest.map (age4 S) } := by
  refine ⟨by dsimp only; rw [List.length_map]; exact h.len, h.l0, h.i0, h.f0, fun r hr => ?_⟩
  obtain ⟨r', hr', rfl⟩ := List.mem_map.1 hr
  have := h.r0 r' hr'
  have := h.i0
  unfold age4
  split
  · rename_i hl
    have : r'.a < S.idle := by unfold live4 at hl; simp at hl; exact hl.2
    dsimp only
    omega
  · assumption
set_option maxHeartbeats 8000000 in
theorem rtick_any (S : Sr) (hS : SrOk S) (w : World) :
    Calls Tryd.prog 13 #[.agg (srC S).toArray] w fun e w' => e = .returned (.agg (srC (tickS S)).toArray) ∧ Below w.heap.size w w' := by
  have rc := sr_rc hS.len
  have hz := zeroSrc
  have rz := zero_rc
  have hzs : (srC zeroS).toArray.size = 71 := by rw [List.size_toArray, rz.len]
  have hzn : (srC zeroS).toArray ≠ #[] := fun e => by rw [e] at hzs; cases hzs
  have hA0 := Lib.hid ((vat_new w 32 (srC S)).alloc (.cells (srC zeroS).toArray 32))
  have hZ0 := Lib.hid (show SAt ((w.alloc (.cells (srC S).toArray 32)).alloc (.cells (srC zeroS).toArray 32)) (w.heap.size + 1) zeroS from by
    have := vat_new (w.alloc (.cells (srC S).toArray 32)) 32 (srC zeroS)
    rwa [World.size_alloc] at this)
  have HF := Lib.hid (fun u => rfront_any _ (aged_ok hS) u)
  have HT : Hid (tickS S = frontS { S with rest := S.rest.map (age4 S) }) := by unfold Hid tickS; rfl
  go_enter Tryd.func13, Tryd.ntmps13
  go_wp2
  go_loopw [3] (fun i wr => ∃ m : Nat, m ≤ 16 ∧ i = .int .i64 ((m : Int) + 1) ∧ SAt wr w.heap.size (agedS S m) ∧ SAt wr (w.heap.size + 1) zeroS ∧ Below w.heap.size w wr) (fun i _ => 17 - (intOf i).toNat)
  case atStart => exact ⟨0, by omega, rfl, hA0.out, hZ0.out, by go_grown⟩
  case round =>
    obtain ⟨m, hm, rfl, hA, hZ, hB⟩ := hrel
    obtain ⟨al, ai, af, ag⟩ := aged_same S m
    by_cases hlt : m < 16
    · obtain ⟨r, hr⟩ : ∃ r, S.rest[m]? = some r := ⟨_, List.getElem?_eq_getElem (by rw [hS.len]; exact hlt)⟩
      have hr2 : (agedS S m).rest[m]? = some r := (aged_high S m m (Nat.le_refl _)).trans hr
      have hs := aged_succ S hr
      replace hA : SAt wr.drew w.heap.size (agedS S m) := VAt.drew hA
      replace hZ : SAt wr.drew (w.heap.size + 1) zeroS := VAt.drew hZ
      replace hB := hB.drew
      obtain ⟨-, -, c2, c3⟩ := sr_cells hA hr2
      have f3 := VAt.free hA (2 + (m + 1) * 4 + 3)
      have d1 := SAt.c1 hA
      rw [ai] at d1
      have HS := Lib.hid hs
      clear hs al ai af ag
      have hro := hS.r0 r (List.mem_of_getElem? hr)
      have hi0 := hS.i0
      have hw : wrap64 (r.a + 1) = r.a + 1 := by rw [wr64] <;> omega
      have hw1 : wrap64 ((m : Int) + 1 + 1) = (m : Int) + 1 + 1 := by rw [wr64] <;> omega
      have k2 : (0 : Int) ≤ (m : Int) + 1 := by omega
      have k3 : (m : Int) + 1 < 17 := by omega
      have k4 : ((m : Int) + 1).toNat = m + 1 := by omega
      have HA := Lib.hid hA
      have HZ := Lib.hid hZ
      have HB := Lib.hid hB
      have same : live4 S r = false → SAt wr.drew w.heap.size (agedS S (m + 1)) := fun h => by
        rw [HS.out]
        have : age4 S r = r := by unfold age4; rw [h]; rfl
        rw [this]
        have e : (agedS S m).rest.set m r = (agedS S m).rest := by
          apply List.ext_getElem?
          intro i
          by_cases e : m = i
          · subst e; rw [List.getElem?_set_self (List.getElem?_eq_some_iff.1 hr2).1, hr2]
          · rw [List.getElem?_set_ne e]
        rw [e]; exact HA.out
      have SM := Lib.hid same
      have aged : live4 S r = true → SAt (wr.drew.setCell ⟨w.heap.size, 2 + (m + 1) * 4 + 3, none⟩ (.int .i64 (r.a + 1))) w.heap.size (agedS S (m + 1)) := fun h => by
        rw [HS.out]
        have : age4 S r = { r with a := r.a + 1 } := by unfold age4; rw [h]; rfl
        rw [this]
        have := HA.out.set (2 + (m + 1) * 4 + 3) (.int .i64 (r.a + 1))
        rw [show 2 + (m + 1) * 4 + 3 = 6 + m * 4 + 3 by omega, sr_set (r' := { r with a := r.a + 1 }) hr2 (by omega) rfl] at this
        rw [show 2 + (m + 1) * 4 + 3 = 6 + m * 4 + 3 by omega]
        exact this
      have AG := Lib.hid aged
      clear hz hzs hzn rz rc hA hZ hB hA0 hZ0 hr hr2 hi0 same aged HF
      by_cases hp : r.p = true
      · rw [hp] at c2
        by_cases ha : r.a < S.idle
        · have hlv : Hid (live4 S r = true) := by unfold Hid live4; rw [hp]; simpa using ha
          have A1 := Lib.hid (AG.out hlv.out)
          clear SM AG HS
          have da : decide (r.a < S.idle) = true := by simpa using ha
          go_wp2_with fail
          refine wp_region_held_drew (S := fun u => u.cell? ⟨w.heap.size, 2 + (m + 1) * 4 + 2, none⟩ = some (.bool true) ∧ u.cell? ⟨w.heap.size, 2 + (m + 1) * 4 + 3, none⟩ = some (.int .i64 r.a) ∧ u.cell? ⟨w.heap.size, 1, none⟩ = some (.int .i64 S.idle)) (by kernel_rfl) ⟨c2, c3, d1⟩ (fun hS => ?_)
          generalize wr.drew = wd at *
          refine tkH 0 hS ?_
          refine tkH 1 hS ?_
          refine tkH 2 (v := .pointer (some ⟨w.heap.size, 2 + (m + 1) * 4, none⟩)) hS ?_
          refine tkH 3 hS ?_
          refine tkC 4 hS (fun u h => h.1) ?_
          refine tkH 5 hS ?_
          refine tkH 6 hS ?_
          refine tkH 7 hS ?_
          refine tkH 8 (v := .pointer (some ⟨w.heap.size, 2 + (m + 1) * 4, none⟩)) hS ?_
          refine tkH 9 hS ?_
          refine tkC 10 hS (fun u h => h.2.1) ?_
          refine tkH 11 hS ?_
          refine tkC 12 hS (fun u h => h.2.2) ?_
          refine tkH 13 (v := .bool true) hS ?_
          refine tkH 14 hS ?_
          refine wpAnyH_done (by kernel_rfl) ?_ _
          clear hS
          go_wp2
          go_roundw
          case rel =>
            exact ⟨m + 1, by omega, by go_num, A1.out, HZ.out.far (by omega) _, HB.out.setCell (Nat.le_refl _) _⟩
          case measure => simp [intOf]; omega
        · have A1 := Lib.hid (SM.out (show live4 S r = false by unfold live4; rw [hp]; simpa using ha))
          clear SM AG HS
          have da : decide (r.a < S.idle) = false := by simpa using ha
          go_wp2_with fail
          refine wp_region_held_drew (S := fun u => u.cell? ⟨w.heap.size, 2 + (m + 1) * 4 + 2, none⟩ = some (.bool true) ∧ u.cell? ⟨w.heap.size, 2 + (m + 1) * 4 + 3, none⟩ = some (.int .i64 r.a) ∧ u.cell? ⟨w.heap.size, 1, none⟩ = some (.int .i64 S.idle)) (by kernel_rfl) ⟨c2, c3, d1⟩ (fun hS => ?_)
          generalize wr.drew = wd at *
          refine tkH 0 hS ?_
          refine tkH 1 hS ?_
          refine tkH 2 (v := .pointer (some ⟨w.heap.size, 2 + (m + 1) * 4, none⟩)) hS ?_
          refine tkH 3 hS ?_
          refine tkC 4 hS (fun u h => h.1) ?_
          refine tkH 5 hS ?_
          refine tkH 6 hS ?_
          refine tkH 7 hS ?_
          refine tkH 8 (v := .pointer (some ⟨w.heap.size, 2 + (m + 1) * 4, none⟩)) hS ?_
          refine tkH 9 hS ?_
          refine tkC 10 hS (fun u h => h.2.1) ?_
          refine tkH 11 hS ?_
          refine tkC 12 hS (fun u h => h.2.2) ?_
          refine tkH 13 (v := .bool false) hS ?_
          refine tkH 14 hS ?_
          refine wpAnyH_done (by kernel_rfl) ?_ _
          clear hS
          go_wp2
          go_roundw
          case rel =>
            exact ⟨m + 1, by omega, by go_num, A1.out, HZ.out, HB.out⟩
          case measure => simp [intOf]; omega
      · have hp' : r.p = false := by simpa using hp
        have A1 := Lib.hid (SM.out (show live4 S r = false by unfold live4; rw [hp']; rfl))
        rw [hp'] at c2
        clear SM AG HS
        go_wp2_with fail
        refine wp_region_held_drew (S := fun u => u.cell? ⟨w.heap.size, 2 + (m + 1) * 4 + 2, none⟩ = some (.bool false) ∧ u.cell? ⟨w.heap.size, 2 + (m + 1) * 4 + 3, none⟩ = some (.int .i64 r.a) ∧ u.cell? ⟨w.heap.size, 1, none⟩ = some (.int .i64 S.idle)) (by kernel_rfl) ⟨c2, c3, d1⟩ (fun hS => ?_)
        generalize wr.drew = wd at *
        refine tkH 0 hS ?_
        refine tkH 1 hS ?_
        refine tkH 2 (v := .pointer (some ⟨w.heap.size, 2 + (m + 1) * 4, none⟩)) hS ?_
        refine tkH 3 hS ?_
        refine tkC 4 hS (fun u h => h.1) ?_
        refine tkH 5 hS ?_
        refine tkS 6 hS ?_
        refine tkS 7 hS ?_
        refine tkS 8 hS ?_
        refine tkS 9 hS ?_
        refine tkS 10 hS ?_
        refine tkS 11 hS ?_
        refine tkS 12 hS ?_
        refine tkS 13 hS ?_
        refine tkH 14 hS ?_
        refine wpAnyH_done (by kernel_rfl) ?_ _
        clear hS
        go_wp2
        go_roundw
        case rel =>
          exact ⟨m + 1, by omega, by go_num, A1.out, HZ.out, HB.out⟩
        case measure => simp [intOf]; omega
    · obtain rfl : m = 16 := by omega
      rw [aged_all S hS.len] at hA
      have rcA : RC 71 (srC { S with rest := S.rest.map (age4 S) }) := sr_rc (by dsimp only; rw [List.length_map]; exact hS.len)
      have rcF : RC 71 (srC (tickS S)) := sr_rc (by rw [HT.out, front_len]; dsimp only; rw [List.length_map]; exact hS.len)
      rw [← HT.out] at HF
      have HB := Lib.hid hB
      have HZ := Lib.hid hZ
      clear hz hzs hzn hA0 hZ0 hB hZ al ai af ag
      generalize { S with rest := S.rest.map (age4 S) } = S1 at *
      have HE : Hid (tickS S = tickS S) := by unfold Hid; rfl
      generalize hS2 : tickS S = S2 at *
      have HE2 := Lib.hid hS2
      clear hS2
      go_wp2_with (first | (refine ld_v rowSrc rcA hA rfl rfl rfl ?_) | fail)
      refine (HF.out _).mono ?_
      rintro e w2 ⟨rfl, hb2⟩
      have hZ2 : SAt w2 (w.heap.size + 1) zeroS := VAt.below HZ.out hb2
      have HB2 := Lib.hid (below_then HB.out hb2)
      clear hb2 hA
      go_wp2_with (first | (refine st_v rowSrc rz rcF hZ2 rfl rfl rfl rfl ?_) | fail)
      refine bodyPost_ret (res_v (p := 2) rfl rfl rowSrc rcF (hZ2.row _)) rfl ?_
      exact ⟨by rw [HE2.out], below_row HB2.out (by omega) _⟩
end Go.Proofs.YtoodcaonlfeleaaDoor
