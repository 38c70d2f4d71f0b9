/- Parse of package span. -/
import Derived.Test.YtmiahbaadlddjaaDoorTakeM
import Derived.Test.YtmiahbaadlddjaaDoorText2
import Derived.Test.YtmiahbaadlddjaaDoorHeldIn
namespace Go.Proofs.YtmiahbaadlddjaaDoor
open Go Go.Proofs Go.RowKit Go.Shelf
set_option maxRecDepth 100000
attribute [local go_sem] Oper.semAt_some
def pStep (s : Nat × List UInt8) (u : Fin 5) : Nat × List UInt8 :=
  if s.2 = [] then s else match takeR u s.2 with
    | none => s
    | some (n, r) => (s.1 + min n (4398046511104 / unitSize u + 1) * unitSize u, r)
def pRun (l : List UInt8) (pre : List (Fin 5)) : Nat × List UInt8 := pre.foldl pStep (0, l)
theorem pRun_snoc (l : List UInt8) (pre : List (Fin 5)) (x : Fin 5) : pRun l (pre ++ [x]) = pStep (pRun l pre) x := by
  unfold pRun; rw [List.foldl_append]; rfl
theorem takeR_suffix (u : Fin 5) (l : List UInt8) (n : Nat) (r : List UInt8) (h : takeR u l = some (n, r)) : ∃ k, r = l.drop k := by
  unfold takeR at h
  split at h
  · cases h
  · split at h
    · cases h
      have h1 := List.takeWhile_append_dropWhile (p := dB) (l := l)
      have h2 := List.takeWhile_append_dropWhile (p := nB) (l := l.dropWhile dB)
      refine ⟨((l.takeWhile dB) ++ ((l.dropWhile dB).takeWhile nB)).length, ?_⟩
      conv => rhs; arg 2; rw [← h1, ← h2, ← List.append_assoc]
      rw [List.drop_left]
    · cases h
theorem pStep_suffix (s : Nat × List UInt8) (u : Fin 5) : ∃ k, (pStep s u).2 = s.2.drop k := by
  unfold pStep
  split
  · exact ⟨0, rfl⟩
  · split
    · exact ⟨0, rfl⟩
    · rename_i n r h
      exact takeR_suffix _ _ _ _ h
theorem pRun_suffix (l : List UInt8) (pre : List (Fin 5)) : ∃ k, (pRun l pre).2 = l.drop k := by
  have h : ∀ (p : List (Fin 5)) (s : Nat × List UInt8), (∃ k, s.2 = l.drop k) → ∃ k, (p.foldl pStep s).2 = l.drop k := by
    intro p
    induction p with
    | nil => intro s hs; exact hs
    | cons u t ih =>
      intro s ⟨k, hk⟩
      obtain ⟨j, hj⟩ := pStep_suffix s u
      exact ih _ ⟨k + j, by rw [hj, hk, List.drop_drop]⟩
  exact h pre (0, l) ⟨0, rfl⟩
theorem part_le (n : Nat) (u : Fin 5) : min n (4398046511104 / unitSize u + 1) * unitSize u ≤ 8796093022208 := by
  obtain ⟨z1, z2⟩ := unitSize_bd u
  have h1 : min n (4398046511104 / unitSize u + 1) * unitSize u ≤ (4398046511104 / unitSize u + 1) * unitSize u := Nat.mul_le_mul_right _ (Nat.min_le_right _ _)
  have h2 := Nat.div_mul_le_self 4398046511104 (unitSize u)
  rw [Nat.add_mul] at h1
  omega
theorem pStep_le (s : Nat × List UInt8) (u : Fin 5) : (pStep s u).1 ≤ s.1 + 8796093022208 := by
  unfold pStep
  split
  · omega
  · split
    · omega
    · exact Nat.add_le_add_left (part_le _ _) _
theorem pRun_le (l : List UInt8) (pre : List (Fin 5)) : (pRun l pre).1 ≤ pre.length * 8796093022208 := by
  have h : ∀ (p : List (Fin 5)) (s : Nat × List UInt8), (p.foldl pStep s).1 ≤ s.1 + p.length * 8796093022208 := by
    intro p
    induction p with
    | nil => intro s; simp
    | cons u t ih =>
      intro s
      have h1 := ih (pStep s u)
      have h2 := pStep_le s u
      rw [List.foldl_cons, List.length_cons]
      omega
  have := h pre (0, l)
  simpa [pRun] using this
/-- what Parse answers of a text that is not "0" -/
def parseP (l : List UInt8) : Int × Int :=
  if l = [] ∨ (pRun l [0, 1, 2, 3, 4]).2 ≠ [] then (0, 2) else if 4398046511104 < (pRun l [0, 1, 2, 3, 4]).1 then (0, 1) else (((pRun l [0, 1, 2, 3, 4]).1 : Int), 0)
theorem str_nil (l : List UInt8) : (⟨l.toArray⟩ : ByteArray).toList.isEmpty = l.isEmpty := by rw [ByteArray.toList_eq]
theorem keeps_drew {W w1 : World} (h : KeepsOthers W w1) : KeepsOthers W w1.drew := ⟨h.1, h.2⟩
theorem pRun_fix (l : List UInt8) (pre : List (Fin 5)) (h : pre <+: [0, 1, 2, 3, 4]) (h2 : (pRun l pre).2 = []) : pRun l [0, 1, 2, 3, 4] = pRun l pre := by
  obtain ⟨t, ht⟩ := h
  rw [← ht]
  unfold pRun at *
  rw [List.foldl_append]
  generalize pre.foldl pStep (0, l) = s at *
  clear ht
  induction t with
  | nil => rfl
  | cons u t ih =>
    rw [List.foldl_cons, show pStep s u = s by unfold pStep; rw [if_pos h2]]
    exact ih
theorem parseP_of (l : List UInt8) (S : Nat) (R : List UInt8) (hS : (pRun l [0, 1, 2, 3, 4]).1 = S) (hR : (pRun l [0, 1, 2, 3, 4]).2 = R) : parseP l = if l = [] ∨ R ≠ [] then (0, 2) else if 4398046511104 < S then (0, 1) else ((S : Int), 0) := by
  subst hS hR; rfl
theorem box_later {w w' : World} {B : Nat} {t : TypeId} {v : Value} (hb : Below w.heap.size w w') (h : Boxed w B t v) : Boxed w' B t v := heap_carry hb h
set_option maxHeartbeats 4000000 in
theorem parse_loop (l : List UInt8) (hl : l.length ≤ 1000) (w : World) (hne : (l == [48]) = false) (hix : ∀ k, IxOk (l.drop k)) (hpu : ∀ k W, Below w.heap.size w W → PuOk W (l.drop k)) :
    Calls Tryd.prog 19 #[.string ⟨l.toArray⟩] w fun e w' => e = .returned (Two (parseP l)) ∧ Below w.heap.size w w' := by
  refine (callsIn_wide (n := 9)).1 ?_
  refine callsIn_of_wp_marks Tryd.func19 rfl trivial ?_ rfl
  simp only [Tryd.ntmps19, List.size_toArray, List.length_cons, List.length_nil, Nat.reduceAdd, Nat.reduceSub, Array.replicate_succ, Array.replicate_zero, List.push_toArray, List.append_toArray, List.nil_append, List.cons_append]
  have HL := Lib.hid hl
  have HIX := Lib.hid hix
  have HPU := Lib.hid hpu
  clear hl hix hpu
  gi_wp2
  have hlp : Below w.heap.size w ((w.alloc (.cells #[.int .u64 0] 48)).alloc (.cells #[.string ⟨l.toArray⟩] 9)) := by go_grown
  have bx3 : Boxed ((w.alloc (.cells #[.int .u64 0] 48)).alloc (.cells #[.string ⟨l.toArray⟩] 9)) w.heap.size 48 (.int .u64 0) := (Boxed.new w _ _).alloc _
  have bx4 : Boxed ((w.alloc (.cells #[.int .u64 0] 48)).alloc (.cells #[.string ⟨l.toArray⟩] 9)) (w.heap.size + 1) 9 (.string ⟨l.toArray⟩) := by
    have h := Boxed.new (w.alloc (.cells #[.int .u64 0] 48)) 9 (.string ⟨l.toArray⟩); rwa [World.size_alloc] at h
  have hsz : ((w.alloc (.cells #[.int .u64 0] 48)).alloc (.cells #[.string ⟨l.toArray⟩] 9)).heap.size = w.heap.size + 2 := by simp
  generalize hW0 : (w.alloc (.cells #[.int .u64 0] 48)).alloc (.cells #[.string ⟨l.toArray⟩] 9) = W0 at *
  clear hW0
  refine wpIn_rangeFunc_ownH (F := Fence.wide) (n := 9) rfl (by omega) (gf := 28) (lb := #[]) rfl trivial (enters_of Tryd.func28 (by kernel_rfl) rfl)
    (encs := fun x => #[unitV x]) (Kp := KeepsWalks) (units_stops Fence.wide (9 - 1) trivial rfl (by omega) W0) walksK_t walksK_b (Below.refl _ _) (fun _ => rfl)
    (fun pre W => Boxed W w.heap.size 48 (.int .u64 ((pRun l pre).1 : Int)) ∧ Boxed W (w.heap.size + 1) 9 (.string ⟨(pRun l pre).2.toArray⟩) ∧ Below w.heap.size w W)
    (fun c pre W => (c = .exit 0 ∧ (pRun l pre).2 = []) ∧ Boxed W w.heap.size 48 (.int .u64 ((pRun l pre).1 : Int)) ∧ Boxed W (w.heap.size + 1) 9 (.string ⟨(pRun l pre).2.toArray⟩) ∧ Below w.heap.size w W)
    (OwnFrom.and (Own.from (boxed_own (w.heap.size) 48 (fun pre => .int .u64 ((pRun l pre).1 : Int))) _) (OwnFrom.and (Own.from (boxed_own (w.heap.size + 1) 9 (fun pre => .string ⟨(pRun l pre).2.toArray⟩)) _) (ownFrom_below (Nat.le_refl _) (by rw [hsz]; omega))))
    (fun c => OwnFrom.and (ownFrom_pure _ (fun (pre : List (Fin 5)) => c = .exit 0 ∧ (pRun l pre).2 = [])) (OwnFrom.and (Own.from (boxed_own (w.heap.size) 48 (fun pre => .int .u64 ((pRun l pre).1 : Int))) _) (OwnFrom.and (Own.from (boxed_own (w.heap.size + 1) 9 (fun pre => .string ⟨(pRun l pre).2.toArray⟩)) _) (ownFrom_below (Nat.le_refl _) (by rw [hsz]; omega)))))
    ⟨bx3, bx4, hlp⟩
    (fun x a' W => ∃ Bx, w.heap.size + 2 ≤ Bx ∧ Blk W Bx #[.string ⟨(unitWord x).toArray⟩, .int .u64 (unitSize x : Int), .int .u64 (unitMost x : Int)] 51 ∧ a' = { tmps := #[.string ⟨l.toArray⟩, undef, .int .i64 0, .int .i64 0, .pointer (some ⟨w.heap.size, 0, none⟩), .pointer (some ⟨w.heap.size + 1, 0, none⟩), .pointer (some ⟨Bx, 0, none⟩), undef, undef, undef, .string ⟨l.toArray⟩, .bool false, .string ⟨l.toArray⟩, unitV x, undef, undef, undef, undef, undef, undef, undef, undef, undef, undef, undef, undef, undef, undef, undef, undef, undef, undef, undef, undef, undef, undef, undef, undef, undef, undef, undef, undef, undef, undef, undef, undef], defers := [] })
    (fun x a' => ?ax) ?assign ?body ?done ?stop
  case ax => exact fun s X Y row ⟨Bx, q1, q2, q3⟩ hg hr => ⟨Bx, q1, (blk_own (β := Unit) Bx _ _).from _ () X Y row q2 hg hr, q3⟩
  case assign =>
    rintro l0 pre x W K ⟨hsum, hrest, hB⟩ hK
    simp only [unitV]
    have hWs : w.heap.size + 2 ≤ W.heap.size := by have := hrest.lt; omega
    gi_wp2
    exact hK _ _ ((KeepsOthers.alloc _ _).from _) (KeepsWalks.alloc _ _) ⟨hsum.alloc _, hrest.alloc _, below_new hB _⟩ ⟨W.heap.size, hWs, heap_alloc_new W _, rfl⟩
  case body =>
    rintro l0 pre x a' W hlt ⟨r, hr⟩ ⟨hsum, hrest, hB⟩ ⟨Bx, hBx, bX, rfl⟩ hlen
    have hs := pRun_snoc l pre x
    have hle := pRun_le l pre
    obtain ⟨k, hk⟩ := pRun_suffix l pre
    have TA := take_any x (l.drop k) (by have := HL.out; rw [List.length_drop]; omega) W (HIX.out k) (HPU.out k W hB)
    rw [← hk] at TA
    unfold unitV at TA
    clear hk
    have hs : pRun l (pre ++ [x]) = pStep ((pRun l pre).1, (pRun l pre).2) x := pRun_snoc l pre x
    generalize hS : (pRun l pre).1 = S at *
    generalize hR0 : (pRun l pre).2 = R at *
    have SN := Lib.hid hs
    clear hs hS hR0
    obtain ⟨z1, z2⟩ := unitSize_bd x
    have c4 := hsum.cell
    have f4 := hsum.frozen
    have c5 := hrest.cell
    have f5 := hrest.frozen
    obtain ⟨x0, x1, x2⟩ := three_cells bX
    by_cases hR : R = []
    · subst hR
      clear TA
      gi_wp2
      refine ⟨(KeepsOthers.refl _).from _, ?_⟩
      dsimp only
      rw [SN.out]
      exact ⟨⟨rfl, by simp [pStep]⟩, by simpa [pStep] using hsum, by simpa [pStep] using hrest, hB⟩
    · have hRe : R.isEmpty = false := by cases R with | nil => exact absurd rfl hR | cons _ _ => rfl
      have hBW := hB.size
      rcases hT : takeR x R with _ | ⟨n, r⟩
      · rw [hT] at TA
        unfold takeV at TA
        have TC := Lib.hid TA
        have TN := Lib.hid hT
        have RN := Lib.hid hR
        clear TA hT hR
        gi_wp2_with (refine ⟨trivial, ?_⟩; gi_at_call 29; refine (CallsIn.inRound l0 (callsIn_wide.2 TC.out)).mono ?_; rintro e w1 ⟨rfl, hb1⟩)
        have k1 : KeepsOthers W w1 := ⟨hb1.size, fun k o hk hc => heap_carry hb1 hk⟩
        refine ⟨k1.from _, ⟨k1.1, fun i o hi hw => k1.2 i o hi (Obj.not_cells_of_walk hw)⟩, ?_⟩
        dsimp only
        rw [SN.out]
        have e : pStep (S, R) x = (S, R) := by unfold pStep; dsimp only; rw [if_neg RN.out, TN.out]
        rw [e]
        exact ⟨box_later hb1 hsum, box_later hb1 hrest, hB.trans (hb1.mono hBW)⟩
      · rw [hT] at TA
        unfold takeV at TA
        have TC := Lib.hid TA
        have TN := Lib.hid hT
        have RN := Lib.hid hR
        have e : pStep (S, R) x = (S + min n (4398046511104 / unitSize x + 1) * unitSize x, r) := by unfold pStep; dsimp only; rw [if_neg hR, hT]
        rw [e] at SN
        clear e
        have pl := part_le n x
        clear TA hT hR
        generalize unitSize x = z at *
        generalize unitMost x = mo at *
        generalize unitWord x = wd at *
        obtain ⟨Q, hQ⟩ : ∃ Q, 4398046511104 / z = Q := ⟨_, rfl⟩
        rw [hQ] at SN pl
        have hQ2 : Q ≤ 4398046511104 := by rw [← hQ]; exact Nat.div_le_self _ _
        have q1 : (4398046511104 : Int) / (z : Int) = (Q : Int) := by rw [← hQ, Int.natCast_ediv]; rfl
        have q2 : ¬ (z : Int) = 0 := by omega
        have q3 : ((z : Int) == 0) = false := by rw [beq_eq_false_iff_ne]; exact q2
        have q4 : ¬ z = 0 := by omega
        have q5 : (z == 0) = false := by rw [beq_eq_false_iff_ne]; exact q4
        have q6 : IntKind.u64.wrap (Q : Int) = (Q : Int) := by rw [IntKind.wrap_u64]; omega
        have q7 : IntKind.u64.wrap ((Q : Int) + 1) = (Q : Int) + 1 := by rw [IntKind.wrap_u64]; omega
        have hS5 : S ≤ 43980465111040 := by omega
        clear hQ
        by_cases hn : n ≤ Q + 1
        · rw [Nat.min_eq_left hn] at SN pl
          have hn' : (n : Int) ≤ (Q : Int) + 1 := by omega
          have m1 : (n : Int) * (z : Int) = ((n * z : Nat) : Int) := by simp
          have m2 : IntKind.u64.wrap ((n : Int) * (z : Int)) = (n : Int) * (z : Int) := by rw [IntKind.wrap_u64, m1]; omega
          have m3 : IntKind.u64.wrap ((S : Int) + (n : Int) * (z : Int)) = (S : Int) + (n : Int) * (z : Int) := by rw [IntKind.wrap_u64, m1]; omega
          have EH : Hid (IntKind.u64.wrap ((S : Int) + IntKind.u64.wrap (min (n : Int) (4398046511104 / (z : Int) + 1) * (z : Int))) = (S : Int) + (n : Int) * (z : Int)) := Lib.hid (by rw [q1, Int.min_eq_left hn', m2, m3])
          clear m1 hle
          gi_wp2_with (refine ⟨trivial, ?_⟩; gi_at_call 29; refine (CallsIn.inRound l0 (callsIn_wide.2 TC.out)).mono ?_; rintro e w1 ⟨rfl, hb1⟩; have bs := box_later hb1 hsum; have br := box_later hb1 hrest; have c4' := bs.cell; have f4' := bs.frozen; have c5' := br.cell; have f5' := br.frozen; obtain ⟨y0, y1, y2⟩ := three_cells (heap_carry hb1 bX))
          refine region_anyL (S := fun u => u.cell? ⟨w.heap.size, 0, none⟩ = some (.int .u64 (S : Int)) ∧ u.cell? ⟨Bx, 1, none⟩ = some (.int .u64 (z : Int))) 11 (by kernel_rfl) (fun hS => ?_) ⟨by go_cell, by go_cell⟩
          refine' anyL_take (i := 0) (oi := ?oi0a) (v := ?v0a) (by kernel_rfl) ?hi0a (by kernel_rfl) (by kernel_rfl) (by kernel_rfl) (by kernel_rfl) (fun _ _ _ h => h) ?hy0a ?hab0a hS ?rest0a
          case hi0a =>
            simp only [List.getElem?_toArray, List.getElem?_cons_succ, List.getElem?_cons_zero]
            exact rfl
          case hy0a =>
            refine Or.inl ⟨by rfl, ?_⟩
            intro w hSw
            (try dsimp only at hSw)
            go_simp
            (try with_reducible rfl)
          case hab0a => exact fun _ => rfl
          (try simp only [Act.put, List.setIfInBounds_toArray, List.set_cons_zero, List.set_cons_succ])
          refine' anyL_take (i := 1) (oi := ?oi1a) (v := ?v1a) (by kernel_rfl) ?hi1a (by kernel_rfl) (by kernel_rfl) (by kernel_rfl) (by kernel_rfl) (fun _ _ _ h => h) ?hy1a ?hab1a hS ?rest1a
          case hi1a =>
            simp only [List.getElem?_toArray, List.getElem?_cons_succ, List.getElem?_cons_zero]
            exact rfl
          case hy1a =>
            refine Or.inl ⟨by rfl, ?_⟩
            intro w hSw
            (try dsimp only at hSw)
            go_simp
            (try with_reducible rfl)
          case hab1a => exact fun _ => rfl
          (try simp only [Act.put, List.setIfInBounds_toArray, List.set_cons_zero, List.set_cons_succ])
          refine' anyL_take (i := 2) (oi := ?oi2a) (v := ?v2a) (by kernel_rfl) ?hi2a (by kernel_rfl) (by kernel_rfl) (by kernel_rfl) (by kernel_rfl) (fun _ _ _ h => h) ?hy2a ?hab2a hS ?rest2a
          case hi2a =>
            simp only [List.getElem?_toArray, List.getElem?_cons_succ, List.getElem?_cons_zero]
            exact rfl
          case hy2a =>
            refine Or.inl ⟨by rfl, ?_⟩
            intro w hSw
            (try dsimp only at hSw)
            go_simp
            (try with_reducible rfl)
          case hab2a => exact fun _ => rfl
          (try simp only [Act.put, List.setIfInBounds_toArray, List.set_cons_zero, List.set_cons_succ])
          refine' anyL_take (i := 3) (oi := ?oi3a) (v := ?v3a) (by kernel_rfl) ?hi3a (by kernel_rfl) (by kernel_rfl) (by kernel_rfl) (by kernel_rfl) (fun _ _ _ h => h) ?hy3a ?hab3a hS ?rest3a
          case hi3a =>
            simp only [List.getElem?_toArray, List.getElem?_cons_succ, List.getElem?_cons_zero]
            exact rfl
          case hy3a =>
            refine Or.inl ⟨by rfl, ?_⟩
            intro w hSw
            (try dsimp only at hSw)
            go_simp
            (try with_reducible rfl)
          case hab3a => exact fun _ => rfl
          (try simp only [Act.put, List.setIfInBounds_toArray, List.set_cons_zero, List.set_cons_succ])
          refine' anyL_take (i := 4) (oi := ?oi4a) (v := ?v4a) (by kernel_rfl) ?hi4a (by kernel_rfl) (by kernel_rfl) (by kernel_rfl) (by kernel_rfl) (fun _ _ _ h => h) ?hy4a ?hab4a hS ?rest4a
          case hi4a =>
            simp only [List.getElem?_toArray, List.getElem?_cons_succ, List.getElem?_cons_zero]
            exact rfl
          case hy4a =>
            refine Or.inl ⟨by rfl, ?_⟩
            intro w hSw
            (try dsimp only at hSw)
            go_simp
            (try with_reducible rfl)
          case hab4a => exact fun _ => rfl
          (try simp only [Act.put, List.setIfInBounds_toArray, List.set_cons_zero, List.set_cons_succ])
          refine' anyL_take (i := 5) (oi := ?oi5a) (v := ?v5a) (by kernel_rfl) ?hi5a (by kernel_rfl) (by kernel_rfl) (by kernel_rfl) (by kernel_rfl) (fun _ _ _ h => h) ?hy5a ?hab5a hS ?rest5a
          case hi5a =>
            simp only [List.getElem?_toArray, List.getElem?_cons_succ, List.getElem?_cons_zero]
            exact rfl
          case hy5a =>
            refine Or.inl ⟨by rfl, ?_⟩
            intro w hSw
            (try dsimp only at hSw)
            go_simp
            (try with_reducible rfl)
          case hab5a => exact fun _ => rfl
          (try simp only [Act.put, List.setIfInBounds_toArray, List.set_cons_zero, List.set_cons_succ])
          refine' anyL_take (i := 6) (oi := ?oi6a) (v := ?v6a) (by kernel_rfl) ?hi6a (by kernel_rfl) (by kernel_rfl) (by kernel_rfl) (by kernel_rfl) (fun _ _ _ h => h) ?hy6a ?hab6a hS ?rest6a
          case hi6a =>
            simp only [List.getElem?_toArray, List.getElem?_cons_succ, List.getElem?_cons_zero]
            exact rfl
          case hy6a =>
            refine Or.inl ⟨by rfl, ?_⟩
            intro w hSw
            (try dsimp only at hSw)
            go_simp
            (try with_reducible rfl)
          case hab6a => exact fun _ => rfl
          (try simp only [Act.put, List.setIfInBounds_toArray, List.set_cons_zero, List.set_cons_succ])
          refine' anyL_take (i := 7) (oi := ?oi7a) (v := ?v7a) (by kernel_rfl) ?hi7a (by kernel_rfl) (by kernel_rfl) (by kernel_rfl) (by kernel_rfl) (fun _ _ _ h => h) ?hy7a ?hab7a hS ?rest7a
          case hi7a =>
            simp only [List.getElem?_toArray, List.getElem?_cons_succ, List.getElem?_cons_zero]
            exact rfl
          case hy7a =>
            refine Or.inl ⟨by rfl, ?_⟩
            intro w hSw
            (try dsimp only at hSw)
            go_simp
            (try with_reducible rfl)
          case hab7a => exact fun _ => rfl
          (try simp only [Act.put, List.setIfInBounds_toArray, List.set_cons_zero, List.set_cons_succ])
          refine' anyL_take (i := 8) (oi := ?oi8a) (v := ?v8a) (by kernel_rfl) ?hi8a (by kernel_rfl) (by kernel_rfl) (by kernel_rfl) (by kernel_rfl) (fun _ _ _ h => h) ?hy8a ?hab8a hS ?rest8a
          case hi8a =>
            simp only [List.getElem?_toArray, List.getElem?_cons_succ, List.getElem?_cons_zero]
            exact rfl
          case hy8a =>
            refine Or.inl ⟨by rfl, ?_⟩
            intro w hSw
            (try dsimp only at hSw)
            go_simp
            (try with_reducible rfl)
          case hab8a => exact fun _ => rfl
          (try simp only [Act.put, List.setIfInBounds_toArray, List.set_cons_zero, List.set_cons_succ])
          refine' anyL_take (i := 9) (oi := ?oi9a) (v := ?v9a) (by kernel_rfl) ?hi9a (by kernel_rfl) (by kernel_rfl) (by kernel_rfl) (by kernel_rfl) (fun _ _ _ h => h) ?hy9a ?hab9a hS ?rest9a
          case hi9a =>
            simp only [List.getElem?_toArray, List.getElem?_cons_succ, List.getElem?_cons_zero]
            exact rfl
          case hy9a =>
            refine Or.inl ⟨by rfl, ?_⟩
            intro w hSw
            (try dsimp only at hSw)
            go_simp
            (try with_reducible rfl)
          case hab9a => exact fun _ => rfl
          (try simp only [Act.put, List.setIfInBounds_toArray, List.set_cons_zero, List.set_cons_succ])
          refine' anyL_take (i := 10) (oi := ?oi10a) (v := ?v10a) (by kernel_rfl) ?hi10a (by kernel_rfl) (by kernel_rfl) (by kernel_rfl) (by kernel_rfl) (fun _ _ _ h => h) ?hy10a ?hab10a hS ?rest10a
          case hi10a =>
            simp only [List.getElem?_toArray, List.getElem?_cons_succ, List.getElem?_cons_zero]
            exact rfl
          case hy10a =>
            refine Or.inl ⟨by rfl, ?_⟩
            intro w hSw
            (try dsimp only at hSw)
            go_simp
            (try with_reducible rfl)
          case hab10a => exact fun _ => rfl
          (try simp only [Act.put, List.setIfInBounds_toArray, List.set_cons_zero, List.set_cons_succ])
          refine anyL_last (by kernel_rfl) (by simp only [List.getElem?_toArray, List.getElem?_cons_succ, List.getElem?_cons_zero]; exact rfl) (by rfl) (fun K hK => ?_)
          go_simp
          refine hK _ _ ?_
          clear hK K
          (try simp only [Act.put, List.setIfInBounds_toArray, List.set_cons_zero, List.set_cons_succ])
          refine anyL_done (by kernel_rfl) ?_ _
          gi_wp2
          have k1 : KeepsOthers W w1 := ⟨hb1.size, fun k o hk hc => heap_carry hb1 hk⟩
          have hB2 : Below w.heap.size w w1 := hB.trans (hb1.mono hBW)
          rw [EH.out]
          have k3 := (k1.trans (KeepsOthers.setCell _ ⟨w.heap.size, 0, none⟩ (.int .u64 ((S : Int) + (n : Int) * (z : Int))))).trans (KeepsOthers.setCell _ ⟨w.heap.size + 1, 0, none⟩ (.string ⟨r.toArray⟩))
          refine ⟨(keeps_drew k3).from _, ⟨k3.1, fun i o hi hw => k3.2 i o hi (Obj.not_cells_of_walk hw)⟩, ?_⟩
          dsimp only
          rw [SN.out, show ((S + n * z : Nat) : Int) = (S : Int) + (n : Int) * (z : Int) by simp]
          exact ⟨(bs.set _).other (by omega) _, (br.other (by omega) _).set _, Below.drew ((hB2.setCell (by simp) _).setCell (by simp) _)⟩
        · have hn : Q + 1 < n := by omega
          rw [Nat.min_eq_right (by omega)] at SN pl
          have hn' : (Q : Int) + 1 < (n : Int) := by omega
          have m1 : ((Q : Int) + 1) * (z : Int) = (((Q + 1) * z : Nat) : Int) := by simp
          have m2 : IntKind.u64.wrap (((Q : Int) + 1) * (z : Int)) = ((Q : Int) + 1) * (z : Int) := by rw [IntKind.wrap_u64, m1]; omega
          have m3 : IntKind.u64.wrap ((S : Int) + ((Q : Int) + 1) * (z : Int)) = (S : Int) + ((Q : Int) + 1) * (z : Int) := by rw [IntKind.wrap_u64, m1]; omega
          have EH : Hid (IntKind.u64.wrap ((S : Int) + IntKind.u64.wrap (min (n : Int) (4398046511104 / (z : Int) + 1) * (z : Int))) = (S : Int) + ((Q : Int) + 1) * (z : Int)) := Lib.hid (by rw [q1, Int.min_eq_right (Int.le_of_lt hn'), m2, m3])
          clear m1 hle
          gi_wp2_with (refine ⟨trivial, ?_⟩; gi_at_call 29; refine (CallsIn.inRound l0 (callsIn_wide.2 TC.out)).mono ?_; rintro e w1 ⟨rfl, hb1⟩; have bs := box_later hb1 hsum; have br := box_later hb1 hrest; have c4' := bs.cell; have f4' := bs.frozen; have c5' := br.cell; have f5' := br.frozen; obtain ⟨y0, y1, y2⟩ := three_cells (heap_carry hb1 bX))
          refine region_anyL (S := fun u => u.cell? ⟨w.heap.size, 0, none⟩ = some (.int .u64 (S : Int)) ∧ u.cell? ⟨Bx, 1, none⟩ = some (.int .u64 (z : Int))) 11 (by kernel_rfl) (fun hS => ?_) ⟨by go_cell, by go_cell⟩
          refine' anyL_take (i := 0) (oi := ?oi0b) (v := ?v0b) (by kernel_rfl) ?hi0b (by kernel_rfl) (by kernel_rfl) (by kernel_rfl) (by kernel_rfl) (fun _ _ _ h => h) ?hy0b ?hab0b hS ?rest0b
          case hi0b =>
            simp only [List.getElem?_toArray, List.getElem?_cons_succ, List.getElem?_cons_zero]
            exact rfl
          case hy0b =>
            refine Or.inl ⟨by rfl, ?_⟩
            intro w hSw
            (try dsimp only at hSw)
            go_simp
            (try with_reducible rfl)
          case hab0b => exact fun _ => rfl
          (try simp only [Act.put, List.setIfInBounds_toArray, List.set_cons_zero, List.set_cons_succ])
          refine' anyL_take (i := 1) (oi := ?oi1b) (v := ?v1b) (by kernel_rfl) ?hi1b (by kernel_rfl) (by kernel_rfl) (by kernel_rfl) (by kernel_rfl) (fun _ _ _ h => h) ?hy1b ?hab1b hS ?rest1b
          case hi1b =>
            simp only [List.getElem?_toArray, List.getElem?_cons_succ, List.getElem?_cons_zero]
            exact rfl
          case hy1b =>
            refine Or.inl ⟨by rfl, ?_⟩
            intro w hSw
            (try dsimp only at hSw)
            go_simp
            (try with_reducible rfl)
          case hab1b => exact fun _ => rfl
          (try simp only [Act.put, List.setIfInBounds_toArray, List.set_cons_zero, List.set_cons_succ])
          refine' anyL_take (i := 2) (oi := ?oi2b) (v := ?v2b) (by kernel_rfl) ?hi2b (by kernel_rfl) (by kernel_rfl) (by kernel_rfl) (by kernel_rfl) (fun _ _ _ h => h) ?hy2b ?hab2b hS ?rest2b
          case hi2b =>
            simp only [List.getElem?_toArray, List.getElem?_cons_succ, List.getElem?_cons_zero]
            exact rfl
          case hy2b =>
            refine Or.inl ⟨by rfl, ?_⟩
            intro w hSw
            (try dsimp only at hSw)
            go_simp
            (try with_reducible rfl)
          case hab2b => exact fun _ => rfl
          (try simp only [Act.put, List.setIfInBounds_toArray, List.set_cons_zero, List.set_cons_succ])
          refine' anyL_take (i := 3) (oi := ?oi3b) (v := ?v3b) (by kernel_rfl) ?hi3b (by kernel_rfl) (by kernel_rfl) (by kernel_rfl) (by kernel_rfl) (fun _ _ _ h => h) ?hy3b ?hab3b hS ?rest3b
          case hi3b =>
            simp only [List.getElem?_toArray, List.getElem?_cons_succ, List.getElem?_cons_zero]
            exact rfl
          case hy3b =>
            refine Or.inl ⟨by rfl, ?_⟩
            intro w hSw
            (try dsimp only at hSw)
            go_simp
            (try with_reducible rfl)
          case hab3b => exact fun _ => rfl
          (try simp only [Act.put, List.setIfInBounds_toArray, List.set_cons_zero, List.set_cons_succ])
          refine' anyL_take (i := 4) (oi := ?oi4b) (v := ?v4b) (by kernel_rfl) ?hi4b (by kernel_rfl) (by kernel_rfl) (by kernel_rfl) (by kernel_rfl) (fun _ _ _ h => h) ?hy4b ?hab4b hS ?rest4b
          case hi4b =>
            simp only [List.getElem?_toArray, List.getElem?_cons_succ, List.getElem?_cons_zero]
            exact rfl
          case hy4b =>
            refine Or.inl ⟨by rfl, ?_⟩
            intro w hSw
            (try dsimp only at hSw)
            go_simp
            (try with_reducible rfl)
          case hab4b => exact fun _ => rfl
          (try simp only [Act.put, List.setIfInBounds_toArray, List.set_cons_zero, List.set_cons_succ])
          refine' anyL_take (i := 5) (oi := ?oi5b) (v := ?v5b) (by kernel_rfl) ?hi5b (by kernel_rfl) (by kernel_rfl) (by kernel_rfl) (by kernel_rfl) (fun _ _ _ h => h) ?hy5b ?hab5b hS ?rest5b
          case hi5b =>
            simp only [List.getElem?_toArray, List.getElem?_cons_succ, List.getElem?_cons_zero]
            exact rfl
          case hy5b =>
            refine Or.inl ⟨by rfl, ?_⟩
            intro w hSw
            (try dsimp only at hSw)
            go_simp
            (try with_reducible rfl)
          case hab5b => exact fun _ => rfl
          (try simp only [Act.put, List.setIfInBounds_toArray, List.set_cons_zero, List.set_cons_succ])
          refine' anyL_take (i := 6) (oi := ?oi6b) (v := ?v6b) (by kernel_rfl) ?hi6b (by kernel_rfl) (by kernel_rfl) (by kernel_rfl) (by kernel_rfl) (fun _ _ _ h => h) ?hy6b ?hab6b hS ?rest6b
          case hi6b =>
            simp only [List.getElem?_toArray, List.getElem?_cons_succ, List.getElem?_cons_zero]
            exact rfl
          case hy6b =>
            refine Or.inl ⟨by rfl, ?_⟩
            intro w hSw
            (try dsimp only at hSw)
            go_simp
            (try with_reducible rfl)
          case hab6b => exact fun _ => rfl
          (try simp only [Act.put, List.setIfInBounds_toArray, List.set_cons_zero, List.set_cons_succ])
          refine' anyL_take (i := 7) (oi := ?oi7b) (v := ?v7b) (by kernel_rfl) ?hi7b (by kernel_rfl) (by kernel_rfl) (by kernel_rfl) (by kernel_rfl) (fun _ _ _ h => h) ?hy7b ?hab7b hS ?rest7b
          case hi7b =>
            simp only [List.getElem?_toArray, List.getElem?_cons_succ, List.getElem?_cons_zero]
            exact rfl
          case hy7b =>
            refine Or.inl ⟨by rfl, ?_⟩
            intro w hSw
            (try dsimp only at hSw)
            go_simp
            (try with_reducible rfl)
          case hab7b => exact fun _ => rfl
          (try simp only [Act.put, List.setIfInBounds_toArray, List.set_cons_zero, List.set_cons_succ])
          refine' anyL_take (i := 8) (oi := ?oi8b) (v := ?v8b) (by kernel_rfl) ?hi8b (by kernel_rfl) (by kernel_rfl) (by kernel_rfl) (by kernel_rfl) (fun _ _ _ h => h) ?hy8b ?hab8b hS ?rest8b
          case hi8b =>
            simp only [List.getElem?_toArray, List.getElem?_cons_succ, List.getElem?_cons_zero]
            exact rfl
          case hy8b =>
            refine Or.inl ⟨by rfl, ?_⟩
            intro w hSw
            (try dsimp only at hSw)
            go_simp
            (try with_reducible rfl)
          case hab8b => exact fun _ => rfl
          (try simp only [Act.put, List.setIfInBounds_toArray, List.set_cons_zero, List.set_cons_succ])
          refine' anyL_take (i := 9) (oi := ?oi9b) (v := ?v9b) (by kernel_rfl) ?hi9b (by kernel_rfl) (by kernel_rfl) (by kernel_rfl) (by kernel_rfl) (fun _ _ _ h => h) ?hy9b ?hab9b hS ?rest9b
          case hi9b =>
            simp only [List.getElem?_toArray, List.getElem?_cons_succ, List.getElem?_cons_zero]
            exact rfl
          case hy9b =>
            refine Or.inl ⟨by rfl, ?_⟩
            intro w hSw
            (try dsimp only at hSw)
            go_simp
            (try with_reducible rfl)
          case hab9b => exact fun _ => rfl
          (try simp only [Act.put, List.setIfInBounds_toArray, List.set_cons_zero, List.set_cons_succ])
          refine' anyL_take (i := 10) (oi := ?oi10b) (v := ?v10b) (by kernel_rfl) ?hi10b (by kernel_rfl) (by kernel_rfl) (by kernel_rfl) (by kernel_rfl) (fun _ _ _ h => h) ?hy10b ?hab10b hS ?rest10b
          case hi10b =>
            simp only [List.getElem?_toArray, List.getElem?_cons_succ, List.getElem?_cons_zero]
            exact rfl
          case hy10b =>
            refine Or.inl ⟨by rfl, ?_⟩
            intro w hSw
            (try dsimp only at hSw)
            go_simp
            (try with_reducible rfl)
          case hab10b => exact fun _ => rfl
          (try simp only [Act.put, List.setIfInBounds_toArray, List.set_cons_zero, List.set_cons_succ])
          refine anyL_last (by kernel_rfl) (by simp only [List.getElem?_toArray, List.getElem?_cons_succ, List.getElem?_cons_zero]; exact rfl) (by rfl) (fun K hK => ?_)
          go_simp
          refine hK _ _ ?_
          clear hK K
          (try simp only [Act.put, List.setIfInBounds_toArray, List.set_cons_zero, List.set_cons_succ])
          refine anyL_done (by kernel_rfl) ?_ _
          gi_wp2
          have k1 : KeepsOthers W w1 := ⟨hb1.size, fun k o hk hc => heap_carry hb1 hk⟩
          have hB2 : Below w.heap.size w w1 := hB.trans (hb1.mono hBW)
          rw [EH.out]
          have k3 := (k1.trans (KeepsOthers.setCell _ ⟨w.heap.size, 0, none⟩ (.int .u64 ((S : Int) + ((Q : Int) + 1) * (z : Int))))).trans (KeepsOthers.setCell _ ⟨w.heap.size + 1, 0, none⟩ (.string ⟨r.toArray⟩))
          refine ⟨(keeps_drew k3).from _, ⟨k3.1, fun i o hi hw => k3.2 i o hi (Obj.not_cells_of_walk hw)⟩, ?_⟩
          dsimp only
          rw [SN.out, show ((S + (Q + 1) * z : Nat) : Int) = (S : Int) + ((Q : Int) + 1) * (z : Int) by simp]
          exact ⟨(bs.set _).other (by omega) _, (br.other (by omega) _).set _, Below.drew ((hB2.setCell (by simp) _).setCell (by simp) _)⟩
  case done =>
    rintro D ys W hD rfl ⟨hsum, hrest, hB⟩ hK
    generalize hS : (pRun l [0, 1, 2, 3, 4]).1 = S at *
    generalize hR0 : (pRun l [0, 1, 2, 3, 4]).2 = R at *
    have c4 := hsum.cell
    have c5 := hrest.cell
    have PV := parseP_of l S R hS hR0
    clear hS hR0
    by_cases hl0 : l = []
    · rw [if_pos (.inl hl0)] at PV
      have PH := Lib.hid PV
      clear PV
      have hl1 : l.isEmpty = true := by rw [hl0]; rfl
      clear hl0
      gi_wp2
      refine ⟨by simp, .inl ⟨_, _, rfl, run_takeDeferred hK, ?_⟩⟩
      exact ⟨_, results_tmp2 rfl _ _ _, by rw [PH.out]; rfl, hB.trans (belowK_b (w := w) (Nat.le_refl _) W D _ _ (by rw [hsz] at hD; omega) hK rfl rfl)⟩
    · have hl1 : l.isEmpty = false := by cases l with | nil => exact absurd rfl hl0 | cons _ _ => rfl
      by_cases hr0 : R = []
      · rw [if_neg (by rintro (h | h); exact hl0 h; exact h hr0)] at PV
        have hr1 : R.isEmpty = true := by rw [hr0]; rfl
        clear hl0 hr0
        by_cases hb : 4398046511104 < S
        · rw [if_pos hb] at PV
          have PH := Lib.hid PV
          clear PV
          have hb1 : (4398046511104 : Int) < (S : Int) := by omega
          gi_wp2
          refine ⟨by simp, .inl ⟨_, _, rfl, run_takeDeferred hK, ?_⟩⟩
          exact ⟨_, results_tmp2 rfl _ _ _, by rw [PH.out]; rfl, hB.trans (belowK_b (w := w) (Nat.le_refl _) W D _ _ (by rw [hsz] at hD; omega) hK rfl rfl)⟩
        · rw [if_neg hb] at PV
          have PH := Lib.hid PV
          clear PV
          have hb1 : (S : Int) ≤ 4398046511104 := by omega
          have hb2 : IntKind.i64.wrap (S : Int) = (S : Int) := by rw [IntKind.wrap_i64]; omega
          gi_wp2
          refine ⟨by simp, .inl ⟨_, _, rfl, run_takeDeferred hK, ?_⟩⟩
          exact ⟨_, results_tmp2 rfl _ _ _, by rw [PH.out]; rfl, hB.trans (belowK_b (w := w) (Nat.le_refl _) W D _ _ (by rw [hsz] at hD; omega) hK rfl rfl)⟩
      · rw [if_pos (.inr hr0)] at PV
        have PH := Lib.hid PV
        clear PV
        have hr1 : R.isEmpty = false := by cases R with | nil => exact absurd rfl hr0 | cons _ _ => rfl
        clear hl0 hr0
        gi_wp2
        refine ⟨by simp, .inl ⟨_, _, rfl, run_takeDeferred hK, ?_⟩⟩
        exact ⟨_, results_tmp2 rfl _ _ _, by rw [PH.out]; rfl, hB.trans (belowK_b (w := w) (Nat.le_refl _) W D _ _ (by rw [hsz] at hD; omega) hK rfl rfl)⟩
  case stop =>
    rintro D c pre W hD hpre ⟨⟨rfl, hre⟩, hsum, hrest, hB⟩ hK
    rw [← pRun_fix l pre hpre hre] at hsum hrest
    generalize hS : (pRun l [0, 1, 2, 3, 4]).1 = S at *
    generalize hR0 : (pRun l [0, 1, 2, 3, 4]).2 = R at *
    have c4 := hsum.cell
    have c5 := hrest.cell
    have PV := parseP_of l S R hS hR0
    clear hS hR0
    by_cases hl0 : l = []
    · rw [if_pos (.inl hl0)] at PV
      have PH := Lib.hid PV
      clear PV
      have hl1 : l.isEmpty = true := by rw [hl0]; rfl
      clear hl0
      gi_wp2
      refine ⟨by simp, .inl ⟨_, _, rfl, run_takeDeferred hK, ?_⟩⟩
      exact ⟨_, results_tmp2 rfl _ _ _, by rw [PH.out]; rfl, hB.trans (belowK_b (w := w) (Nat.le_refl _) W D _ _ (by rw [hsz] at hD; omega) hK rfl rfl)⟩
    · have hl1 : l.isEmpty = false := by cases l with | nil => exact absurd rfl hl0 | cons _ _ => rfl
      by_cases hr0 : R = []
      · rw [if_neg (by rintro (h | h); exact hl0 h; exact h hr0)] at PV
        have hr1 : R.isEmpty = true := by rw [hr0]; rfl
        clear hl0 hr0
        by_cases hb : 4398046511104 < S
        · rw [if_pos hb] at PV
          have PH := Lib.hid PV
          clear PV
          have hb1 : (4398046511104 : Int) < (S : Int) := by omega
          gi_wp2
          refine ⟨by simp, .inl ⟨_, _, rfl, run_takeDeferred hK, ?_⟩⟩
          exact ⟨_, results_tmp2 rfl _ _ _, by rw [PH.out]; rfl, hB.trans (belowK_b (w := w) (Nat.le_refl _) W D _ _ (by rw [hsz] at hD; omega) hK rfl rfl)⟩
        · rw [if_neg hb] at PV
          have PH := Lib.hid PV
          clear PV
          have hb1 : (S : Int) ≤ 4398046511104 := by omega
          have hb2 : IntKind.i64.wrap (S : Int) = (S : Int) := by rw [IntKind.wrap_i64]; omega
          gi_wp2
          refine ⟨by simp, .inl ⟨_, _, rfl, run_takeDeferred hK, ?_⟩⟩
          exact ⟨_, results_tmp2 rfl _ _ _, by rw [PH.out]; rfl, hB.trans (belowK_b (w := w) (Nat.le_refl _) W D _ _ (by rw [hsz] at hD; omega) hK rfl rfl)⟩
      · rw [if_pos (.inr hr0)] at PV
        have PH := Lib.hid PV
        clear PV
        have hr1 : R.isEmpty = false := by cases R with | nil => exact absurd rfl hr0 | cons _ _ => rfl
        clear hl0 hr0
        gi_wp2
        refine ⟨by simp, .inl ⟨_, _, rfl, run_takeDeferred hK, ?_⟩⟩
        exact ⟨_, results_tmp2 rfl _ _ _, by rw [PH.out]; rfl, hB.trans (belowK_b (w := w) (Nat.le_refl _) W D _ _ (by rw [hsz] at hD; omega) hK rfl rfl)⟩
end Go.Proofs.YtmiahbaadlddjaaDoor
