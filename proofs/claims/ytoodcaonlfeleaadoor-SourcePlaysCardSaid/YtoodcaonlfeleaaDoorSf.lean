/- The document's Sources: Seen, front. -/
import Derived.Test.YtoodcaonlfeleaaDoorTt
namespace Go.Proofs.YtoodcaonlfeleaaDoor
open Go Go.Proofs Go.RowKit Go.Shelf
set_option maxRecDepth 100000
attribute [local go_sem] cell_set Oper.semAt_some
theorem rowSrc : RowT 32 71 := ⟨⟨_, Tryd.underlying32, rfl⟩, by kernel_rfl⟩
abbrev SAt (w : World) (b : Nat) (S : Sr) : Prop := VAt 32 w b (srC S)
theorem SAt.c0 {w : World} {b : Nat} {S : Sr} (h : SAt w b S) : w.cell? ⟨b, 0, none⟩ = some (.int .i64 S.late) := h.cell rfl
theorem SAt.c1 {w : World} {b : Nat} {S : Sr} (h : SAt w b S) : w.cell? ⟨b, 1, none⟩ = some (.int .i64 S.idle) := h.cell rfl
def zeroS : Sr := ⟨0, 0, List.replicate 16 ⟨0, 0, false, 0⟩, 0⟩
theorem zeroSrc : ∀ w, (zeroValue 32).run Tryd.prog w = .ok (.agg (srC zeroS).toArray) w := fun w => by kernel_rfl
theorem zero_rc : RC 71 (srC zeroS) := sr_rc (by simp [zeroS])
structure SrOk (S : Sr) : Prop where
  len : S.rest.length = 16
  l0 : 0 ≤ S.late ∧ S.late ≤ 4398046511104
  i0 : 1 ≤ S.idle ∧ S.idle ≤ 1000000
  f0 : I64 S.f
  r0 : ∀ r ∈ S.rest, (0 ≤ r.t ∧ r.t ≤ 4398046511104) ∧ (0 ≤ r.a ∧ r.a ≤ 1000000)
theorem sr_cells {S : Sr} {m : Nat} {r : R4} {w : World} {b : Nat} (h : SAt w b S) (hr : S.rest[m]? = some r) :
    w.cell? ⟨b, 2 + (m + 1) * 4, none⟩ = some (.int .i64 r.q) ∧ w.cell? ⟨b, 2 + (m + 1) * 4 + 1, none⟩ = some (.int .i64 r.t) ∧ w.cell? ⟨b, 2 + (m + 1) * 4 + 2, none⟩ = some (.bool r.p) ∧ w.cell? ⟨b, 2 + (m + 1) * 4 + 3, none⟩ = some (.int .i64 r.a) := by
  obtain ⟨a0, a1, a2, a3⟩ := sr_at hr
  rw [show 2 + (m + 1) * 4 = 6 + m * 4 by omega]
  exact ⟨h.cell a0, h.cell a1, h.cell a2, h.cell a3⟩
/-- the row of a source, whichever number: its last place -/
def seqS (S : Sr) (s : Int) : Int := if s < 1 ∨ 16 < s then 0 else (S.rest.getD (s - 1).toNat ⟨0, 0, false, 0⟩).q
set_option maxHeartbeats 4000000 in
theorem rseen_any (S : Sr) (hS : SrOk S) (s q : Int) (w : World) :
    Calls Tryd.prog 21 #[.agg (srC S).toArray, .int .i64 s, .int .i64 q] w fun e w' => e = .returned (.bool (decide (q ≤ seqS S s))) ∧ Below w.heap.size w w' := by
  have hA := vat_new w 32 (srC S)
  by_cases h1 : s < 1
  · have e : seqS S s = 0 := by unfold seqS; rw [if_pos (.inl h1)]
    rw [e]
    clear hA hS e
    generalize srC S = C at *
    go_enter Tryd.func21, Tryd.ntmps21
    go_wp2
    go_ret
    exact ⟨rfl, below_cells _⟩
  · by_cases h2 : 16 < s
    · have e : seqS S s = 0 := by unfold seqS; rw [if_pos (.inr h2)]
      rw [e]
      clear hA hS e
      generalize srC S = C at *
      go_enter Tryd.func21, Tryd.ntmps21
      go_wp2
      go_ret
      exact ⟨rfl, below_cells _⟩
    · obtain ⟨m, hm, rfl⟩ : ∃ m : Nat, m < 16 ∧ s = (m : Int) + 1 := ⟨(s - 1).toNat, by omega, by omega⟩
      obtain ⟨r, hr⟩ : ∃ r, S.rest[m]? = some r := ⟨_, List.getElem?_eq_getElem (by rw [hS.len]; exact hm)⟩
      have e : seqS S ((m : Int) + 1) = r.q := by
        unfold seqS; rw [if_neg (by omega), show ((m : Int) + 1 - 1).toNat = m by omega, List.getD_eq_getElem?_getD, hr]; rfl
      obtain ⟨c0, -, -, -⟩ := sr_cells hA hr
      have k0 : ¬ ((m : Int) + 1 < 1) := by omega
      have k1 : ¬ (16 < (m : Int) + 1) := by omega
      have k2 : (0 : Int) ≤ (m : Int) + 1 := by omega
      have k3 : (m : Int) + 1 < 17 := by omega
      have k4 : ((m : Int) + 1).toNat = m + 1 := by omega
      rw [e]
      clear hA hS e hr h1 h2
      generalize srC S = C at *
      go_enter Tryd.func21, Tryd.ntmps21
      go_wp2
      go_ret
      exact ⟨rfl, below_cells _⟩
def live4 (S : Sr) (r : R4) : Bool := r.p && decide (r.a < S.idle)
def leastS (S : Sr) : Nat → Option Int
  | 0 => none
  | m + 1 => match S.rest[m]? with
    | some r => if live4 S r then leastN (leastS S m) (r.t - S.late) else leastS S m
    | none => leastS S m
def frontS (S : Sr) : Sr := match leastS S 16 with | none => S | some m => if S.f < m then { S with f := m } else S
def lsS (o : Option Int) : Int := match o with | none => 0 | some m => m
theorem leastS_bound {S : Sr} (h : SrOk S) : ∀ k m, leastS S k = some m → -4398046511104 ≤ m ∧ m ≤ 4398046511104 := by
  intro k
  induction k with
  | zero => intro m e; cases e
  | succ k ih =>
    intro m e
    unfold leastS at e
    cases hr : S.rest[k]? with
    | none => rw [hr] at e; exact ih m e
    | some r =>
      have := (h.r0 r (List.mem_of_getElem? hr)).1
      have := h.l0
      rw [hr] at e
      dsimp only at e
      split at e
      · cases ho : leastS S k with
        | none => rw [ho] at e; simp only [leastN, Option.some.injEq] at e; omega
        | some x => have := ih x ho; rw [ho] at e; simp only [leastN, Option.some.injEq] at e; split at e <;> omega
      · exact ih m e
theorem front_def (S : Sr) : frontS S = match leastS S 16 with | none => S | some m => if S.f < m then { S with f := m } else S := by
  unfold frontS
  generalize leastS S 16 = o
  cases o <;> rfl
theorem front_len (S : Sr) : (frontS S).rest = S.rest := by
  rw [front_def]
  cases leastS S 16 with
  | none => rfl
  | some m => dsimp only; split <;> rfl
set_option maxHeartbeats 8000000 in
theorem rfront_any (S : Sr) (hS : SrOk S) (w : World) :
    Calls Tryd.prog 25 #[.agg (srC S).toArray] w fun e w' => e = .returned (.agg (srC (frontS S)).toArray) ∧ Below w.heap.size w w' := by
  have rc := sr_rc hS.len
  have hz := zeroSrc
  have rz := zero_rc
  have hzs : (srC zeroS).toArray.size = 71 := by rw [List.size_toArray, rz.len]
  have hzn : (srC zeroS).toArray ≠ #[] := fun e => by rw [e] at hzs; cases hzs
  have hD := Lib.hid (front_def S)
  have hb16 := Lib.hid (leastS_bound hS)
  have hA0 := Lib.hid ((vat_new w 32 (srC S)).alloc (.cells (srC zeroS).toArray 32))
  have hZ0 := Lib.hid (show SAt ((w.alloc (.cells (srC S).toArray 32)).alloc (.cells (srC zeroS).toArray 32)) (w.heap.size + 1) zeroS from by
    have := vat_new (w.alloc (.cells (srC S).toArray 32)) 32 (srC zeroS)
    rwa [World.size_alloc] at this)
  go_enter Tryd.func25, Tryd.ntmps25
  go_wp2
  go_loopw [3, 4, 5] (fun l s i wr => ∃ m : Nat, m ≤ 16 ∧ i = .int .i64 ((m : Int) + 1) ∧ l = .int .i64 (lsS (leastS S m)) ∧ s = .bool (leastS S m).isSome ∧ SAt wr w.heap.size S ∧ SAt wr (w.heap.size + 1) zeroS ∧ Below w.heap.size w wr) (fun _ _ i _ => 17 - (intOf i).toNat)
  case atStart => exact ⟨0, by omega, rfl, rfl, rfl, hA0.out, hZ0.out, by go_grown⟩
  case round =>
    obtain ⟨m, hm, rfl, rfl, rfl, hA, hZ, hB⟩ := hrel
    by_cases hlt : m < 16
    · obtain ⟨r, hr⟩ : ∃ r, S.rest[m]? = some r := ⟨_, List.getElem?_eq_getElem (by rw [hS.len]; exact hlt)⟩
      have hs : leastS S (m + 1) = if live4 S r then leastN (leastS S m) (r.t - S.late) else leastS S m := by rw [leastS, hr]
      obtain ⟨c0, c1, c2, c3⟩ := sr_cells hA hr
      have d0 := SAt.c0 hA
      have d1 := SAt.c1 hA
      have hwl := VAt.lt hA
      have hro := hS.r0 r (List.mem_of_getElem? hr)
      have hl0 := hS.l0
      have hw : wrap64 (r.t - S.late) = r.t - S.late := by rw [wr64] <;> omega
      have hw1 : wrap64 ((m : Int) + 1 + 1) = (m : Int) + 1 + 1 := by rw [wr64] <;> omega
      have k2 : (0 : Int) ≤ (m : Int) + 1 := by omega
      have k3 : (m : Int) + 1 < 17 := by omega
      have k4 : ((m : Int) + 1).toNat = m + 1 := by omega
      have HS := Lib.hid hs
      have HA := Lib.hid hA
      have HZ := Lib.hid hZ
      have HB := Lib.hid hB
      obtain ⟨W1, hW1⟩ : ∃ W1, W1 = wr.alloc (.cells #[.int .i64 r.q, .int .i64 r.t, .bool r.p, .int .i64 r.a] 29) := ⟨_, rfl⟩
      have KK := Lib.hid (show SAt W1 w.heap.size S ∧ SAt W1 (w.heap.size + 1) zeroS ∧ Below w.heap.size w W1 from by rw [hW1]; exact ⟨VAt.alloc hA _, VAt.alloc hZ _, below_new hB _⟩)
      clear hz hzs hzn rz rc hs hA hZ hB hA0 hZ0 hr hro hl0
      generalize leastS S m = o at *
      have fin : live4 S r = false → leastS S (m + 1) = o := fun h => by rw [HS.out, h]; rfl
      have FIN := Lib.hid fin
      clear fin
      by_cases hp : r.p = true
      · rw [hp] at c2 hW1
        by_cases ha : r.a < S.idle
        · have hlv : Hid (live4 S r = true) := by unfold Hid live4; rw [hp]; simpa using ha
          cases o with
          | none =>
            simp only [lsS, Option.isSome_none]
            have hl := Lib.hid (show leastS S (m + 1) = some (r.t - S.late) from by rw [HS.out, hlv.out]; rfl)
            clear HS FIN
            go_wp2
            go_roundw
            case rel =>
              rw [← hW1]
              exact ⟨m + 1, by omega, by go_num, by rw [hl.out, hw]; try rfl, by rw [hl.out]; rfl, KK.out⟩
            case measure => simp [intOf]; omega
          | some x =>
            simp only [lsS, Option.isSome_some]
            by_cases hx : r.t - S.late < x
            · have hl := Lib.hid (show leastS S (m + 1) = some (r.t - S.late) from by rw [HS.out, hlv.out]; simp only [leastN, if_true]; rw [if_pos hx])
              clear HS FIN
              go_wp2
              go_roundw
              case rel =>
                rw [← hW1]
                exact ⟨m + 1, by omega, by go_num, by rw [hl.out, hw]; try rfl, by rw [hl.out]; rfl, KK.out⟩
              case measure => simp [intOf]; omega
            · have hl := Lib.hid (show leastS S (m + 1) = some x from by rw [HS.out, hlv.out]; simp only [leastN, if_true]; rw [if_neg hx])
              clear HS FIN
              go_wp2
              go_roundw
              case rel =>
                rw [← hW1]
                exact ⟨m + 1, by omega, by go_num, by rw [hl.out], by rw [hl.out]; rfl, KK.out⟩
              case measure => simp [intOf]; omega
        · have hlv := Lib.hid (FIN.out (show live4 S r = false by unfold live4; rw [hp]; simpa using ha))
          go_wp2
          go_roundw
          case rel =>
            rw [← hW1]
            exact ⟨m + 1, by omega, by go_num, by rw [hlv.out], by rw [hlv.out], KK.out⟩
          case measure => simp [intOf]; omega
      · have hp' : r.p = false := by simpa using hp
        have hlv := Lib.hid (FIN.out (show live4 S r = false by unfold live4; rw [hp']; rfl))
        rw [hp'] at c2 hW1
        go_wp2
        go_roundw
        case rel =>
          rw [← hW1]
          exact ⟨m + 1, by omega, by go_num, by rw [hlv.out], by rw [hlv.out], KK.out⟩
        case measure => simp [intOf]; omega
    · obtain rfl : m = 16 := by omega
      have hf0 := VAt.cell hA (sr_f hS.len)
      have hff := VAt.free hA 70
      have hb16 := hb16.out 16
      have hwl := VAt.lt hA
      generalize leastS S 16 = o at *
      cases o with
      | none =>
        simp only [lsS, Option.isSome_none]
        have hD' : Hid (frontS S = S) := hD.out
        have HA := Lib.hid hA
        have HB := Lib.hid hB
        clear hz hzs hzn hA0 hZ0 hb16
        go_wp2_with (first | (refine ld_v rowSrc rc hA rfl rfl rfl ?_) | (refine st_v rowSrc rz rc hZ rfl rfl rfl rfl ?_) | fail)
        refine bodyPost_ret (res_v (p := 2) rfl rfl rowSrc rc (hZ.row _)) rfl ?_
        exact ⟨by rw [hD'.out], below_row HB.out (by omega) _⟩
      | some x =>
        simp only [lsS, Option.isSome_some]
        by_cases hx : S.f < x
        · have hD' : Hid (frontS S = { S with f := x }) := by have := hD.out; dsimp only at this; rw [if_pos hx] at this; exact this
          obtain ⟨W1, hW1⟩ : ∃ W1, W1 = wr.setCell ⟨w.heap.size, 70, none⟩ (.int .i64 x) := ⟨_, rfl⟩
          have hA1 : SAt W1 w.heap.size { S with f := x } := by rw [hW1, SAt, ← sr_setf hS.len]; exact hA.set 70 _
          have hZ1 : SAt W1 (w.heap.size + 1) zeroS := by rw [hW1]; exact hZ.far (by omega) _
          have hB1 : Below w.heap.size w W1 := by rw [hW1]; exact hB.setCell (Nat.le_refl _) _
          have rc1 : RC 71 (srC { S with f := x }) := sr_rc hS.len
          have HB := Lib.hid hB1
          clear hz hzs hzn hA0 hZ0 hb16 hA hZ hB hB1
          go_wp2_with (first | (rw [← hW1]; refine ld_v rowSrc rc1 hA1 rfl rfl rfl ?_) | (refine st_v rowSrc rz rc1 hZ1 rfl rfl rfl rfl ?_) | fail)
          rw [← hW1]
          refine bodyPost_ret (res_v (p := 2) rfl rfl rowSrc rc1 (hZ1.row _)) rfl ?_
          exact ⟨by rw [hD'.out], below_row HB.out (by omega) _⟩
        · have hD' : Hid (frontS S = S) := by have := hD.out; dsimp only at this; rw [if_neg hx] at this; exact this
          have HB := Lib.hid hB
          clear hz hzs hzn hA0 hZ0 hb16
          go_wp2_with (first | (refine ld_v rowSrc rc hA rfl rfl rfl ?_) | (refine st_v rowSrc rz rc hZ rfl rfl rfl rfl ?_) | fail)
          refine bodyPost_ret (res_v (p := 2) rfl rfl rowSrc rc (hZ.row _)) rfl ?_
          exact ⟨by rw [hD'.out], below_row HB.out (by omega) _⟩
end Go.Proofs.YtoodcaonlfeleaaDoor
