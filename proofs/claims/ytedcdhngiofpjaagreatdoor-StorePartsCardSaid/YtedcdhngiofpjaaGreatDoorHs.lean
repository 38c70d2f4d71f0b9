/- hist: what stage 13 walked. -/
import Derived.Test.YtedcdhngiofpjaaGreatDoorTa
import Derived.Test.YtedcdhngiofpjaaGreatDoorRangeS
import Derived.Test.YtedcdhngiofpjaaGreatDoorShelf
import Derived.Shelf.RegionOpen
import Derived.TacticsInMore
import Derived.LoopNIn
import Derived.LoopIn
import Derived.Lib.BufStepsIn
import Derived.Lib.ItoaNum
import Derived.Carry
import Derived.Lib.Hide
import Derived.Handy
namespace Go.Proofs.YtedcdhngiofpjaaGreatDoor
open Go Go.Proofs Go.RowKit Go.Shelf
set_option maxRecDepth 100000
/-- an int64 -/
def H64 (v : Int) : Prop := -9223372036854775808 ≤ v ∧ v ≤ 9223372036854775807
def bucketR (v : Int) : Nat := if v < 1 then 0 else Lib.bitLen v.toNat
theorem bucketR_low {v : Int} (h : v < 1) : bucketR v = 0 := if_pos h
theorem bucketR_high {v : Int} (h : ¬ v < 1) : bucketR v = Lib.bitLen v.toNat := if_neg h
theorem pow_cast (k : Nat) : ((2 ^ k : Nat) : Int) = 2 ^ k := Int.natCast_pow 2 k
theorem bits_of {v : Int} (h : 1 ≤ v) (h1 : v ≤ 9223372036854775807) : 1 ≤ bucketR v ∧ (2 : Int) ^ (bucketR v - 1) ≤ v ∧ v < (2 : Int) ^ bucketR v ∧ bucketR v ≤ 63 := by
  obtain ⟨n, rfl⟩ : ∃ n : Nat, v = (n : Int) := ⟨v.toNat, by omega⟩
  rw [bucketR_high (by omega), Int.toNat_natCast]
  have hb := Lib.bitLenAux_bounds 64 n (by omega) (by omega)
  show 1 ≤ Lib.bitLen n ∧ _
  change 1 ≤ Lib.bitLen n ∧ 2 ^ (Lib.bitLen n - 1) ≤ n ∧ n < 2 ^ Lib.bitLen n at hb
  obtain ⟨q1, q2, q3⟩ := hb
  refine ⟨q1, by rw [← pow_cast]; exact Int.ofNat_le.2 q2, by rw [← pow_cast]; exact Int.ofNat_lt.2 q3, ?_⟩
  rcases Nat.lt_or_ge 63 (Lib.bitLen n) with h | h
  · have : (2 : Nat) ^ 63 ≤ 2 ^ (Lib.bitLen n - 1) := Nat.pow_le_pow_right (by omega) (by omega)
    omega
  · exact h
theorem bucketR_le (v : Int) (h1 : v ≤ 9223372036854775807) : bucketR v ≤ 63 := by
  by_cases h : v < 1
  · rw [bucketR_low h]; omega
  · exact (bits_of (by omega) h1).2.2.2
theorem wrap_u64 {n : Int} (h0 : 0 ≤ n) (h : n < 18446744073709551616) : IntKind.u64.wrap n = n := by
  have : IntKind.u64.wrap n = n % 18446744073709551616 := by unfold IntKind.wrap; rfl
  rw [this]; omega
set_option maxHeartbeats 4000000 in
theorem bucket_any (v : Int) (h : H64 v) (w : World) : Calls Tryz.prog 77 #[.int .i64 v] w fun e w' => e = .returned (.int .i64 (bucketR v : Int)) ∧ w' = w := by
  obtain ⟨h0, h1⟩ := h
  by_cases hv : v < 1
  · rw [bucketR_low hv]
    go_enter Tryz.func77, Tryz.ntmps77
    go_wp2
    go_ret
    exact ⟨rfl, rfl⟩
  · rw [bucketR_high hv]
    have hL := Lib.hid (Tryz.bits_Len64 v w (by omega) (by omega))
    have hw : IntKind.u64.wrap v = v := wrap_u64 (by omega) (by omega)
    go_enter Tryz.func77, Tryz.ntmps77
    go_wp2_with fail
    refine hL.out.mono ?_
    rintro e w1 ⟨rfl, rfl⟩
    go_wp2
    go_ret
    exact ⟨rfl, rfl⟩
theorem wr64 {n : Int} (h : -9223372036854775808 ≤ n) (k : n ≤ 9223372036854775807) : wrap64 n = n := by rw [wrap64]; omega
set_option maxHeartbeats 4000000 in
theorem rbucket_any (v : Int) (h : H64 v) (w : World) : Calls Tryz.prog 55 #[.int .i64 v] w fun e w' => e = .returned (.int .i64 (bucketR v : Int)) ∧ w' = w := by
  obtain ⟨h0, h1⟩ := h
  go_enter Tryz.func55, Tryz.ntmps55
  go_wp2
  go_loopw [0, 3] (fun x n wr => wr = w ∧ ∃ (X N : Int), x = .int .i64 X ∧ n = .int .i64 N ∧ X ≤ v ∧ -9223372036854775808 ≤ X ∧ 0 ≤ N ∧ N + (bucketR X : Int) = (bucketR v : Int)) (fun x _ _ => (intOf x).toNat)
  case atStart => exact ⟨rfl, v, 0, rfl, rfl, Int.le_refl _, h0, Int.le_refl _, by omega⟩
  case round =>
    obtain ⟨rfl, X, N, rfl, rfl, hX, hX0, hN, hE⟩ := hrel
    have hb := bucketR_le X (by omega)
    have hv63 := bucketR_le v h1
    by_cases hx : 0 < X
    · have hs : bucketR X = 1 + bucketR (X / 2) := by
        rw [bucketR_high (by omega)]
        obtain ⟨k, rfl⟩ : ∃ k : Nat, X = (k : Int) := ⟨X.toNat, by omega⟩
        rw [Int.toNat_natCast, Lib.bitLen_half k (by omega) (by omega)]
        by_cases h2 : (k : Int) / 2 < 1
        · rw [bucketR_low h2, show k / 2 = 0 from by omega]; rfl
        · rw [bucketR_high h2, show ((k : Int) / 2).toNat = k / 2 from by omega]
      have HS := Lib.hid hs
      have HE := Lib.hid hE
      clear hs hE
      go_wp2
      go_roundw
      case rel =>
        have h2 := HE.out
        rw [HS.out] at h2
        rw [wr64 (by omega) (by omega)]
        exact ⟨trivial, X / 2, N + 1, rfl, rfl, by omega, by omega, by omega, by omega⟩
      case measure => simp [intOf]; omega
    · have hz : bucketR X = 0 := bucketR_low (by omega)
      rw [hz] at hE
      have hn : N = (bucketR v : Int) := by omega
      subst hn
      clear hE hz hb
      go_wp2
      go_ret
      exact ⟨rfl, rfl⟩
def allI : List (Fin 65) := List.finRange 65
theorem allI_len : allI.length = 65 := List.length_finRange
theorem allI_get {k : Nat} (hk : k < 65) : allI[k]? = some ⟨k, hk⟩ := by
  rw [List.getElem?_eq_getElem (by rw [allI_len]; exact hk)]
  simp [allI]
theorem take_succ {k : Nat} (hk : k < 65) : allI.take (k + 1) = allI.take k ++ [⟨k, hk⟩] := by
  rw [List.take_add_one, allI_get hk]; rfl
def nth (h : List Int) (i : Nat) : Int := h.getD i 0
def sumB (h : List Int) (l : List (Fin 65)) : Int := l.foldl (fun a i => a + nth h i.val) 0
theorem sumB_snoc (h : List Int) (l : List (Fin 65)) (i : Fin 65) : sumB h (l ++ [i]) = sumB h l + nth h i.val := by simp [sumB]
/-- 65 counts, none below 0, none above 2^50 -/
structure Small (h : List Int) : Prop where
  len : h.length = 65
  low : ∀ x ∈ h, 0 ≤ x
  high : ∀ x ∈ h, x ≤ 1125899906842624
theorem nth_mem {h : List Int} {i : Nat} (hi : i < h.length) : nth h i ∈ h := by
  unfold nth
  rw [List.getD_eq_getElem?_getD, List.getElem?_eq_getElem hi]
  exact List.getElem_mem hi
theorem nth_some {h : List Int} {i : Nat} (hi : i < h.length) : h[i]? = some (nth h i) := by
  unfold nth
  rw [List.getD_eq_getElem?_getD, List.getElem?_eq_getElem hi]; rfl
theorem Small.at {h : List Int} (s : Small h) (i : Nat) : 0 ≤ nth h i ∧ nth h i ≤ 1125899906842624 := by
  rcases Nat.lt_or_ge i h.length with hi | hi
  · exact ⟨s.low _ (nth_mem hi), s.high _ (nth_mem hi)⟩
  · have : nth h i = 0 := by unfold nth; rw [List.getD_eq_getElem?_getD, List.getElem?_eq_none hi]; rfl
    omega
theorem sumB_from {h : List Int} (s : Small h) : ∀ (l : List (Fin 65)) (a : Int), a ≤ l.foldl (fun a i => a + nth h i.val) a ∧ l.foldl (fun a i => a + nth h i.val) a ≤ a + (l.length : Int) * 1125899906842624
  | [], a => by simp
  | i :: l, a => by
    have := sumB_from s l (a + nth h i.val)
    have := s.at i.val
    simp only [List.foldl_cons, List.length_cons]
    omega
theorem sumB_bounds {h : List Int} (s : Small h) (l : List (Fin 65)) : 0 ≤ sumB h l ∧ sumB h l ≤ (l.length : Int) * 1125899906842624 := by
  have := sumB_from s l 0
  unfold sumB
  omega
def countR (h : List Int) : Int := sumB h allI
/-- what h has where g's counts of these are put to it -/
def mergeL (h g : List Int) (l : List (Fin 65)) : List Int := l.foldl (fun a i => a.set i.val (nth a i.val + nth g i.val)) h
theorem mergeL_snoc (h g : List Int) (l : List (Fin 65)) (i : Fin 65) : mergeL h g (l ++ [i]) = (mergeL h g l).set i.val (nth (mergeL h g l) i.val + nth g i.val) := by simp [mergeL]
def mergeH (h g : List Int) : List Int := mergeL h g allI
theorem mergeL_len (h g : List Int) (l : List (Fin 65)) : (mergeL h g l).length = h.length := by
  unfold mergeL
  induction l generalizing h with
  | nil => rfl
  | cons i l ih => rw [List.foldl_cons, ih, List.length_set]
theorem mergeL_bounds {h g : List Int} (sh : Small h) (sg : Small g) : ∀ (l : List (Fin 65)) (a : List Int) (B : Int), (∀ j, 0 ≤ nth a j ∧ nth a j ≤ B) → ∀ j, 0 ≤ nth (mergeL a g l) j ∧ nth (mergeL a g l) j ≤ B + (l.length : Int) * 1125899906842624
  | [], a, B, ha, j => by have := ha j; simp only [mergeL, List.foldl_nil, List.length_nil]; omega
  | i :: l, a, B, ha, j => by
    have hn : ∀ j, 0 ≤ nth (a.set i.val (nth a i.val + nth g i.val)) j ∧ nth (a.set i.val (nth a i.val + nth g i.val)) j ≤ B + 1125899906842624 := fun j => by
      have h1 := ha j
      have h2 := ha i.val
      have h3 := sg.at i.val
      unfold nth at *
      simp only [List.getD_eq_getElem?_getD, List.getElem?_set] at *
      split
      · split
        · simp only [Option.getD_some]; omega
        · simp only [Option.getD_none]; omega
      · omega
    have := mergeL_bounds sh sg l _ _ hn j
    simp only [mergeL, List.foldl_cons, List.length_cons] at this ⊢
    omega
theorem mergeL_at {h g : List Int} (sh : Small h) (sg : Small g) (l : List (Fin 65)) (hl : l.length ≤ 65) (j : Nat) : 0 ≤ nth (mergeL h g l) j ∧ nth (mergeL h g l) j ≤ 74309393851613184 := by
  have := mergeL_bounds sh sg l h 1125899906842624 (fun j => sh.at j) j
  omega
attribute [local go_sem] Oper.semAt_some
set_option maxHeartbeats 4000000 in
theorem buckets_any (h : List Int) (w : World) :
    Calls Tryz.prog 63 #[.agg (hc h)] w fun e w' => e = .returned (.func (.func 99) #[] #[.pointer (some ⟨w.heap.size, 0, none⟩)]) ∧ w' = w.alloc (.cells (hc h) 59) := by
  go_enter Tryz.func63, Tryz.ntmps63
  go_wp2
  go_ret
  exact ⟨rfl, rfl⟩
/-- what is handed on -/
def bkV (h : List Int) (i : Fin 65) : Array Value := #[.int .i64 (i.val : Int), .int .i64 (nth h i.val)]
theorem ix_row {h : List Int} (hl : h.length = 65) {k : Nat} (hk : k < 65) : ∀ w, (Instr.index 59 (.agg (hc h)) (.int .i64 (k : Int))).run Tryz.prog w = .ok (.int .i64 (nth h k)) w := fun w => by
  have e : (hc h)[k]? = some (.int .i64 (nth h k)) := by rw [hc_get, nth_some (by omega)]; rfl
  have h1 : (0 : Int) ≤ (k : Int) ∧ (k : Int) < 65 := by omega
  simp [Instr.index, asIntOf, Go.part, e, hk, Result.andThen]
set_option maxHeartbeats 8000000 in
theorem buckets_stops (T U : TypeId) (Kp : World → World → Prop) (B : Nat) (h : List Int) (w : World) (H : HAt U w B h) :
    SeqStopsS T Fence.wide 8 Tryz.prog 99 #[.pointer (some ⟨B, 0, none⟩)] (bkV h) Kp (fun xs _ => xs = allI) (fun pre => pre <+: allI) 65 w := by
  intro L J Jx W hW hJ hJx hY h0
  have H1 := H.below (hW.mono (Nat.le_refl _))
  have hlen := H.len
  have H0 := Lib.hid h0
  have HY := Lib.hid hY
  clear h0 hY hW H hJ hJx
  refine callsIn_of_wp Tryz.func99 rfl trivial ?_ rfl
  simp only [Tryz.ntmps99, List.size_toArray, List.length_cons, List.length_nil, Nat.reduceAdd, Nat.reduceSub, Array.replicate_succ, Array.replicate_zero, List.push_toArray, List.append_toArray, List.nil_append, List.cons_append]
  gi_wp2_with (first | (refine ldI_row rowH H1 rfl rfl rfl ?_))
  gi_loopw [6] (fun i wr => ∃ k : Nat, i = .int .i64 (k : Int) ∧ k ≤ 65 ∧ J (allI.take k) wr) (fun i _ => 65 - (intOf i).toNat)
  case atStart => exact ⟨0, rfl, by omega, H0.out⟩
  case round =>
    obtain ⟨k, rfl, hk, hJ⟩ := hrel
    have HJ := Lib.hid hJ
    clear hJ H0 H1
    by_cases hlt : k < 65
    · have hix := ix_row hlen hlt
      obtain ⟨fn, tmps, assign, body, hy, hR⟩ := HY.out (allI.take k) ⟨k, hlt⟩ wr HJ.out (by rw [List.length_take, allI_len]; omega)
      unfold bkV at hy
      have hs := take_succ hlt
      have HS := Lib.hid hs
      clear hs
      gi_wp2
      refine hR.mono ?_
      rintro e W3 (⟨rfl, hJ3, _, _⟩ | ⟨rfl, hJx3, _⟩)
      · rw [← HS.out] at hJ3
        have HJ3 := Lib.hid hJ3
        clear hR hJ3 hy
        gi_wp2
        go_roundw
        case rel => exact ⟨k + 1, rfl, by omega, HJ3.out⟩
        case measure => simp [intOf]; omega
      · have HJ3 := Lib.hid hJx3
        clear hR hJx3 hy
        gi_wp2
        refine bodyPost_ret (results_none rfl _ _ _) rfl ?_
        refine ⟨⟨_, rfl⟩, .inr ⟨_, ?_, HJ3.out⟩⟩
        rw [← HS.out]
        exact List.take_prefix _ _
    · obtain rfl : k = 65 := by omega
      gi_wp2
      go_end0
      refine ⟨⟨_, rfl⟩, .inl ⟨_, rfl, ?_⟩⟩
      have := HJ.out
      rwa [List.take_of_length_le (by rw [allI_len]; omega)] at this
theorem hat_own {β : Type} (b : Nat) (f : β → List Int) (T : TypeId) : Own (fun (s : β) W => HAt T W b (f s)) := fun s X Y row hs hg hrow =>
  hs.keep (hg.block b hs.lt (fun e' => by obtain ⟨o, ho, hc⟩ := hrow b e'.symm; rw [hs.blk] at ho; cases ho; cases hc))
/-- behind a loop's return mark -/
theorem below_mark {w W0 W : World} {D : Nat} (h0 : Below w.heap.size w W0) (hB : Below w.heap.size W0 W) (hD : w.heap.size ≤ D) : Below w.heap.size w (W.putObj D (.deferred none)) :=
  (h0.trans hB).trans ((Below.refl _ W).grown (grownBy_putObj' W D _) (by have := hB.size; have := h0.size; omega) (fun k e => by cases e; exact hD))
set_option maxHeartbeats 8000000 in
theorem count_wd (h : List Int) (s : Small h) (w : World) :
    CallsIn Fence.wide 9 Tryz.prog 30 #[.agg (hc h)] w fun e w' => e = .returned (.int .i64 (countR h)) ∧ Below w.heap.size w w' := by
  have hlen := s.len
  refine callsIn_of_wp_marks Tryz.func30 rfl trivial ?_ rfl
  simp only [Tryz.ntmps30, List.size_toArray, List.length_cons, List.length_nil, Nat.reduceAdd, Nat.reduceSub, Array.replicate_succ, Array.replicate_zero, List.push_toArray, List.append_toArray, List.nil_append, List.cons_append]
  have H0 : HAt 59 ((w.alloc (.cells (hc h) 59)).alloc (.cells #[.int .i64 0] 2)) w.heap.size h := (hat_new w _ hlen).alloc _
  gi_wp2_with (first | (refine ldI_row rowH H0 rfl rfl rfl ?_) | fail)
  refine ⟨trivial, (callsIn_wide.2 (buckets_any h _)).mono ?_⟩
  rintro e w1 ⟨rfl, rfl⟩
  gi_wp2
  obtain ⟨W0, hW0⟩ : ∃ W0, ((w.alloc (.cells (hc h) 59)).alloc (.cells #[.int .i64 0] 2)).alloc (.cells (hc h) 59) = W0 := ⟨_, rfl⟩
  have hlp : Below w.heap.size w W0 := by rw [← hW0]; go_grown
  have hsz : W0.heap.size = w.heap.size + 3 := by rw [← hW0]; simp
  have bt0 : Boxed W0 (w.heap.size + 1) 2 (.int .i64 0) := by
    rw [← hW0]
    have h := Boxed.new (w.alloc (.cells (hc h) 59)) 2 (.int .i64 0)
    rw [World.size_alloc] at h
    exact h.alloc _
  have HI : HAt 59 W0 (w.heap.size + 1 + 1) h := by
    rw [← hW0]
    have h := hat_new ((w.alloc (.cells (hc h) 59)).alloc (.cells #[.int .i64 0] 2)) 59 hlen
    rwa [World.size_alloc, World.size_alloc] at h
  rw [hW0]
  clear hW0 H0
  refine rangeS 59 (F := Fence.wide) (n := 9) rfl (by omega) (gf := 99) (lb := #[.pointer (some ⟨w.heap.size + 1 + 1, 0, none⟩)]) rfl trivial (enters_of Tryz.func99 (by kernel_rfl) rfl)
    (buckets_stops 59 59 (fun _ _ => True) (w.heap.size + 1 + 1) h W0 HI) (fun _ _ => trivial) (fun _ _ _ _ => trivial) (fun _ _ _ _ hs _ _ => hs) (Below.refl _ _) (fun _ => rfl)
    (fun pre W => Boxed W (w.heap.size + 1) 2 (.int .i64 (sumB h pre)) ∧ Below w.heap.size W0 W)
    (fun _ _ _ => False)
    (OwnFrom.and (Own.from (boxed_own (w.heap.size + 1) 2 (fun pre => .int .i64 (sumB h pre))) _) (ownFrom_below (by omega) (by rw [hsz]; omega)))
    (fun _ _ _ _ _ hs _ _ => hs)
    ⟨bt0, Below.refl _ _⟩
    (fun x a' _ => a' = { tmps := #[.agg (hc h), .pointer (some ⟨w.heap.size, 0, none⟩), .int .i64 0, .pointer (some ⟨w.heap.size + 1, 0, none⟩), undef, .int .i64 (nth h x.val), .agg (hc h), .func (.func 99) #[] #[.pointer (some ⟨w.heap.size + 1 + 1, 0, none⟩)], .int .i64 (x.val : Int), .int .i64 (nth h x.val), undef, undef, undef, undef], defers := [] })
    (fun x a' => fun _ _ _ _ hs _ _ => hs) ?assign ?body ?done ?stop
  case assign =>
    rintro l' pre x W K hI hK
    simp only [bkV]
    have HI := Lib.hid hI
    clear hI
    gi_wp2
    exact hK _ _ (KeepsT.below (Below.refl _ _)) trivial HI.out rfl
  case body =>
    rintro l' pre x a' W hl _ ⟨ht, hB⟩ rfl hlen
    have ht3 := ht.cell
    have hf3 := ht.frozen
    have hb1 := sumB_bounds s pre
    have hb2 := s.at x.val
    have hw : wrap64 (sumB h pre + nth h x.val) = sumB h pre + nth h x.val := wr64 (by omega) (by omega)
    have HT := Lib.hid ht
    have HB := Lib.hid hB
    clear ht hB
    gi_wp2
    refine ⟨KeepsT.setCell _ (by omega), trivial, ?_, HB.out.setCell (Nat.le_succ _) _⟩
    rw [sumB_snoc]
    exact HT.out.set _
  case done =>
    rintro D ys W hD rfl ⟨ht, hB⟩ hK
    have ht3 := ht.cell
    have HB := Lib.hid hB
    clear ht hB
    gi_wp2
    refine ⟨by simp, .inl ⟨_, _, rfl, run_takeDeferred hK, ?_⟩⟩
    refine ⟨_, by simp [results, Tryz.f30, go_sem]; rfl, rfl, below_mark hlp HB.out (by omega)⟩
  case stop =>
    rintro D c pre W _ _ h _
    exact h.elim
theorem hcount_any (h : List Int) (s : Small h) (w : World) :
    Calls Tryz.prog 30 #[.agg (hc h)] w fun e w' => e = .returned (.int .i64 (countR h)) ∧ Below w.heap.size w w' := (callsIn_wide (n := 9)).1 (count_wd h s w)
theorem HAt.mark {T : TypeId} {W : World} {b D : Nat} {h : List Int} (H : HAt T W b h) (hne : b ≠ D) (o : Obj) : HAt T (W.putObj D o) b h := H.keep (World.putObj_heap_other hne)
set_option maxHeartbeats 8000000 in
theorem merge_wd (h g : List Int) (s : Small h) (sg : Small g) (w : World) :
    CallsIn Fence.wide 9 Tryz.prog 50 #[.agg (hc h), .agg (hc g)] w fun e w' => e = .returned (.agg (hc (mergeH h g))) ∧ Below w.heap.size w w' := by
  have hlen := s.len
  have glen := sg.len
  have hz := zeroH
  have hzs := hc_size zs65
  have hzn := hc_ne zs65_len
  refine callsIn_of_wp_marks Tryz.func50 rfl trivial ?_ rfl
  simp only [Tryz.ntmps50, List.size_toArray, List.length_cons, List.length_nil, Nat.reduceAdd, Nat.reduceSub, Array.replicate_succ, Array.replicate_zero, List.push_toArray, List.append_toArray, List.nil_append, List.cons_append]
  have H0 : HAt 59 (((w.alloc (.cells (hc h) 59)).alloc (.cells (hc g) 59)).alloc (.cells (hc zs65) 59)) (w.heap.size + 1) g := by
    have := hat_new (w.alloc (.cells (hc h) 59)) 59 glen
    rw [World.size_alloc] at this
    exact this.alloc _
  gi_wp2_with (first | (refine ldI_row rowH H0 rfl rfl rfl ?_) | fail)
  refine ⟨trivial, (callsIn_wide.2 (buckets_any g _)).mono ?_⟩
  rintro e w1 ⟨rfl, rfl⟩
  clear hz hzs hzn
  gi_wp2
  obtain ⟨W0, hW0⟩ : ∃ W0, (((w.alloc (.cells (hc h) 59)).alloc (.cells (hc g) 59)).alloc (.cells (hc zs65) 59)).alloc (.cells (hc g) 59) = W0 := ⟨_, rfl⟩
  have hlp : Below w.heap.size w W0 := by rw [← hW0]; go_grown
  have hsz : W0.heap.size = w.heap.size + 4 := by rw [← hW0]; simp
  have A0 : HAt 59 W0 w.heap.size h := by
    rw [← hW0]
    exact (((hat_new w 59 hlen).alloc _).alloc _).alloc _
  have R0 : HAt 59 W0 (w.heap.size + 1 + 1) zs65 := by
    rw [← hW0]
    have h := hat_new ((w.alloc (.cells (hc h) 59)).alloc (.cells (hc g) 59)) 59 zs65_len
    rw [World.size_alloc, World.size_alloc] at h
    exact h.alloc _
  have HI : HAt 59 W0 (w.heap.size + 1 + 1 + 1) g := by
    rw [← hW0]
    have h := hat_new (((w.alloc (.cells (hc h) 59)).alloc (.cells (hc g) 59)).alloc (.cells (hc zs65) 59)) 59 glen
    rwa [World.size_alloc, World.size_alloc, World.size_alloc] at h
  rw [hW0]
  clear hW0 H0
  refine rangeS 2 (F := Fence.wide) (n := 9) rfl (by omega) (gf := 99) (lb := #[.pointer (some ⟨w.heap.size + 1 + 1 + 1, 0, none⟩)]) rfl trivial (enters_of Tryz.func99 (by kernel_rfl) rfl)
    (buckets_stops 2 59 (fun _ _ => True) (w.heap.size + 1 + 1 + 1) g W0 HI) (fun _ _ => trivial) (fun _ _ _ _ => trivial) (fun _ _ _ _ hs _ _ => hs) (Below.refl _ _) (fun _ => rfl)
    (fun pre W => HAt 59 W w.heap.size (mergeL h g pre) ∧ HAt 59 W (w.heap.size + 1 + 1) zs65 ∧ Below w.heap.size W0 W)
    (fun _ _ _ => False)
    (OwnFrom.and (Own.from (hat_own w.heap.size (fun pre => mergeL h g pre) 59) _) (OwnFrom.and (Own.from (hat_own (w.heap.size + 1 + 1) (fun _ => zs65) 59) _) (ownFrom_below (by omega) (by rw [hsz]; omega))))
    (fun _ _ _ _ _ hs _ _ => hs)
    ⟨A0, R0, Below.refl _ _⟩
    (fun x a' _ => a' = { tmps := #[.agg (hc h), .agg (hc g), .pointer (some ⟨w.heap.size, 0, none⟩), .pointer (some ⟨w.heap.size + 1, 0, none⟩), .pointer (some ⟨w.heap.size + 1 + 1, 0, none⟩), .int .i64 (x.val : Int), .int .i64 (nth g x.val), .agg (hc g), .func (.func 99) #[] #[.pointer (some ⟨w.heap.size + 1 + 1 + 1, 0, none⟩)], .int .i64 (x.val : Int), .int .i64 (nth g x.val), undef, undef, undef, undef, undef, undef, undef], defers := [] })
    (fun x a' => fun _ _ _ _ hs _ _ => hs) ?assign ?body ?done ?stop
  case assign =>
    rintro l' pre x W K hI hK
    simp only [bkV]
    have HI := Lib.hid hI
    clear hI
    gi_wp2
    exact hK _ _ (KeepsT.below (Below.refl _ _)) trivial HI.out rfl
  case body =>
    rintro l' pre x a' W hl _ ⟨hA, hR, hB⟩ rfl hpl
    have hx := x.isLt
    have hx2 : (x.val : Int) < 65 := by omega
    have ha := mergeL_at s sg pre (by omega) x.val
    have hc0 := hA.cell (nth_some (h := mergeL h g pre) (i := x.val) (by rw [mergeL_len]; omega))
    have hf0 := hA.free x.val
    have hg := sg.at x.val
    have hw : wrap64 (nth (mergeL h g pre) x.val + nth g x.val) = nth (mergeL h g pre) x.val + nth g x.val := wr64 (by omega) (by omega)
    have HT := Lib.hid (And.intro hA (And.intro hR hB))
    clear hA hR hB
    gi_wp2
    obtain ⟨hA, hR, hB⟩ := HT.out
    refine ⟨KeepsT.setCell _ (by omega), trivial, ?_, hR.far (by omega) _, hB.setCell (Nat.le_refl _) _⟩
    rw [mergeL_snoc]
    exact hA.set _ _
  case done =>
    rintro D ys W hD rfl ⟨hA, hR, hB⟩ hK
    have hme : mergeL h g allI = mergeH h g := rfl
    have hml : (mergeH h g).length = 65 := by rw [← hme, mergeL_len]; exact hlen
    rw [hme] at hA
    have HB := Lib.hid hB
    have HK := Lib.hid hK
    clear hB hme hK
    gi_wp2_with (first | (refine ldI_row rowH hA rfl rfl rfl ?_) | (refine stI_row rowH hR rfl rfl rfl rfl hml ?_) | fail)
    have hB := HB.out
    have hD2 : D ≠ w.heap.size + 1 + 1 := by omega
    have hR2 := hR.row hml
    have hB2 := below_row hB (show w.heap.size ≤ w.heap.size + 1 + 1 by omega) (hc (mergeH h g))
    have hK2 : (W.setRow (w.heap.size + 1 + 1) (hc (mergeH h g))).heap[D]? = some (.deferred (some [])) := (setRow_other W _ D _ hD2).trans HK.out
    refine ⟨by simp [Act.put], .inl ⟨_, _, by simp [Act.put], run_takeDeferred hK2, ?_⟩⟩
    refine ⟨_, ?_, rfl, below_mark hlp hB2 (by omega)⟩
    exact results_cell_row (p := 4) (ty := 59) rfl _ _ (w.heap.size + 1 + 1) 59 _ (0, 0) _ rfl (hR2.mark hD2.symm _).blk rowH.und rfl (rowH.size hml)
  case stop =>
    rintro D c pre W _ _ h _
    exact h.elim
theorem hmerge_any (h g : List Int) (s : Small h) (sg : Small g) (w : World) :
    Calls Tryz.prog 50 #[.agg (hc h), .agg (hc g)] w fun e w' => e = .returned (.agg (hc (mergeH h g))) ∧ Below w.heap.size w w' := (callsIn_wide (n := 9)).1 (merge_wd h g s sg w)
set_option maxHeartbeats 4000000 in
theorem hput0_any (b : Nat) (h : List Int) (v x : Int) (w : World) (H : HAt 59 w b h) (hv : H64 v) (hx : h[bucketR v]? = some x) (hr : 0 ≤ x ∧ x ≤ 1125899906842624) :
    Calls Tryz.prog 40 #[.pointer (some ⟨b, 0, none⟩), .int .i64 v] w fun e w' => (∃ r, e = .returned r) ∧ w' = (w.setCell ⟨b, bucketR v, none⟩ (.int .i64 (x + 1))).drew := by
  have hk := bucketR_le v hv.2
  have HB := Lib.hid (fun W => bucket_any v hv W)
  have hc0 : w.drew.cell? ⟨b, bucketR v, none⟩ = some (.int .i64 x) := H.drew.cell hx
  have hf0 : w.drew.frozen? ⟨b, bucketR v, none⟩ = false := H.drew.free _
  clear hv hx H
  generalize bucketR v = k at *
  go_enter Tryz.func40, Tryz.ntmps40
  go_region_with (first | (go_at_call 77; refine (HB.out _).mono ?_; rintro e w2 ⟨rfl, rfl⟩))
  all_goals
    go_end0
    refine ⟨⟨_, rfl⟩, ?_⟩
    rw [show IntKind.i64.wrap (x + 1) = x + 1 from by rw [IntKind.wrap_i64]; first | omega | exact wr64 (n := x + 1) (by omega) (by omega)]
/-- one value more -/
def putR (h : List Int) (v : Int) : List Int := h.set (bucketR v) (nth h (bucketR v) + 1)
def histR (l : List Int) : List Int := l.foldl putR zs65
theorem histR_snoc (l : List Int) (v : Int) : histR (l ++ [v]) = putR (histR l) v := by simp [histR]
theorem putR_len (h : List Int) (v : Int) : (putR h v).length = h.length := by simp [putR]
theorem histR_len (l : List Int) : (histR l).length = 65 := by
  have : ∀ (l h : List Int), (l.foldl putR h).length = h.length := fun l => by
    induction l with
    | nil => intro h; rfl
    | cons a l ih => intro h; rw [List.foldl_cons, ih, putR_len]
  unfold histR
  rw [this, zs65_len]
theorem nth_set (h : List Int) (i j : Nat) (x : Int) (hi : i < h.length) : nth (h.set i x) j = if i = j then x else nth h j := by
  unfold nth
  simp only [List.getD_eq_getElem?_getD, List.getElem?_set]
  by_cases e : i = j
  · subst e; rw [if_pos rfl, if_pos hi, if_pos rfl]; rfl
  · rw [if_neg e, if_neg e]
theorem nth_zs (i : Nat) : nth zs65 i = 0 := by
  unfold nth zs65
  rw [List.getD_eq_getElem?_getD, List.getElem?_replicate]
  split <;> rfl
def eqB (l : List Int) (i : Nat) : Int := (l.countP (fun x => decide (bucketR x = i)) : Nat)
def cntB (l : List Int) (k : Nat) : Int := (l.countP (fun x => decide (bucketR x < k)) : Nat)
/-- each an int64 -/
def All64 (l : List Int) : Prop := ∀ x ∈ l, H64 x
theorem hist_at : ∀ (l h : List Int), h.length = 65 → All64 l → ∀ i, nth (l.foldl putR h) i = nth h i + eqB l i
  | [], h, _, _, i => by simp [eqB]
  | v :: l, h, hl, hI, i => by
    have hb := bucketR_le v (hI v (by simp)).2
    rw [List.foldl_cons, hist_at l (putR h v) (by rw [putR_len]; exact hl) (fun x hx => hI x (by simp [hx]))]
    unfold putR
    rw [nth_set _ _ _ _ (by omega)]
    unfold eqB
    rw [List.countP_cons]
    by_cases e : bucketR v = i
    · subst e; simp; omega
    · simp [e]
theorem histR_at {l : List Int} (hI : All64 l) (i : Nat) : nth (histR l) i = eqB l i := by
  unfold histR
  rw [hist_at l zs65 zs65_len hI, nth_zs]; omega
theorem eqB_bounds (l : List Int) (i : Nat) : 0 ≤ eqB l i ∧ eqB l i ≤ (l.length : Int) := by
  have := List.countP_le_length (p := fun x => decide (bucketR x = i)) (l := l)
  unfold eqB
  omega
theorem histR_small {l : List Int} (hI : All64 l) (hl : l.length ≤ 1125899906842624) : Small (histR l) := by
  have key : ∀ x ∈ histR l, 0 ≤ x ∧ x ≤ 1125899906842624 := fun x hx => by
    obtain ⟨i, hi, rfl⟩ := List.getElem_of_mem hx
    have h1 := histR_at hI i
    have h2 := nth_some (h := histR l) hi
    rw [List.getElem?_eq_getElem hi] at h2
    have h3 := Option.some.inj h2
    have := eqB_bounds l i
    rw [h3, h1]; omega
  exact ⟨histR_len l, fun x hx => (key x hx).1, fun x hx => (key x hx).2⟩
theorem cntB_succ (l : List Int) (k : Nat) : cntB l (k + 1) = cntB l k + eqB l k := by
  unfold cntB eqB
  induction l with
  | nil => rfl
  | cons v l ih =>
    simp only [List.countP_cons]
    by_cases h1 : bucketR v < k
    · have h2 : bucketR v < k + 1 := by omega
      have h3 : ¬ bucketR v = k := by omega
      simp only [h1, h2, h3, decide_true, decide_false, if_true, if_false, Bool.false_eq_true]
      omega
    · by_cases h2 : bucketR v = k
      · have h3 : bucketR v < k + 1 := by omega
        simp only [h1, h2, h3, decide_true, decide_false, if_true, if_false, Bool.false_eq_true]
        have : k < k + 1 := by omega
        simp only [this, decide_true, if_true, Nat.lt_irrefl, decide_false, if_false, Bool.false_eq_true]
        omega
      · have h3 : ¬ bucketR v < k + 1 := by omega
        simp only [h1, h2, h3, decide_true, decide_false, if_true, if_false, Bool.false_eq_true]
        omega
theorem sum_cnt {l : List Int} (hI : All64 l) : ∀ k, k ≤ 65 → sumB (histR l) (allI.take k) = cntB l k := by
  intro k
  induction k with
  | zero =>
    intro _
    show (0 : Int) = cntB l 0
    unfold cntB
    rw [List.countP_eq_zero.2 (fun x _ => by simp)]; rfl
  | succ k ih =>
    intro hk
    rw [take_succ (show k < 65 by omega), sumB_snoc, ih (by omega), cntB_succ, histR_at hI]
theorem cnt_all {l : List Int} (hI : All64 l) {k : Nat} (hk : 64 ≤ k) : cntB l k = (l.length : Int) := by
  unfold cntB
  rw [List.countP_eq_length.2 (fun x hx => by have := bucketR_le x (hI x hx).2; simp; omega)]
theorem count_hist {l : List Int} (hI : All64 l) : countR (histR l) = (l.length : Int) := by
  have := sum_cnt hI 65 (by omega)
  rw [List.take_of_length_le (by rw [allI_len]; omega)] at this
  unfold countR
  rw [this, cnt_all hI (by omega)]
theorem cntB_bounds (l : List Int) (k : Nat) : 0 ≤ cntB l k ∧ cntB l k ≤ (l.length : Int) := by
  have := List.countP_le_length (p := fun x => decide (bucketR x < k)) (l := l)
  unfold cntB
  omega
theorem cntB_snoc (l : List Int) (v : Int) (k : Nat) : cntB (l ++ [v]) k = cntB l k + if bucketR v < k then 1 else 0 := by
  unfold cntB
  rw [List.countP_append]
  by_cases h : bucketR v < k <;> simp [h]
theorem nth_merge (h g : List Int) (hl : h.length = 65) : ∀ k, k ≤ 65 → ∀ j, nth (mergeL h g (allI.take k)) j = nth h j + if j < k then nth g j else 0 := by
  intro k
  induction k with
  | zero => intro _ j; simp [mergeL]
  | succ k ih =>
    intro hk j
    rw [take_succ (show k < 65 by omega), mergeL_snoc, nth_set _ _ _ _ (by rw [mergeL_len, hl]; omega), ih (by omega), ih (by omega)]
    dsimp only
    by_cases e : k = j
    · subst e
      rw [if_pos rfl, if_neg (by omega), if_pos (by omega)]; omega
    · rw [if_neg e]
      by_cases q : j < k
      · rw [if_pos q, if_pos (by omega)]
      · rw [if_neg q, if_neg (by omega)]
theorem merge_hist {a b : List Int} (ha : All64 a) (hb : All64 b) : mergeH (histR a) (histR b) = histR (a ++ b) := by
  have hab : All64 (a ++ b) := fun x hx => by rcases List.mem_append.1 hx with h | h; exact ha x h; exact hb x h
  have hm : (mergeH (histR a) (histR b)).length = 65 := by unfold mergeH; rw [mergeL_len, histR_len]
  apply List.ext_getElem?
  intro i
  by_cases hi : i < 65
  · rw [nth_some (by omega), nth_some (by rw [histR_len]; exact hi), histR_at hab]
    have := nth_merge (histR a) (histR b) (histR_len a) 65 (by omega) i
    rw [List.take_of_length_le (by rw [allI_len]; omega), if_pos hi, histR_at ha, histR_at hb] at this
    rw [show mergeH (histR a) (histR b) = mergeL (histR a) (histR b) allI from rfl, this]
    unfold eqB
    rw [List.countP_append]
    simp
  · rw [List.getElem?_eq_none (by omega), List.getElem?_eq_none (by rw [histR_len]; omega)]
theorem hist_turn {a b : List Int} (ha : All64 a) (hb : All64 b) : histR (b ++ a) = histR (a ++ b) := by
  have hab : All64 (a ++ b) := fun x hx => by rcases List.mem_append.1 hx with h | h; exact ha x h; exact hb x h
  have hba : All64 (b ++ a) := fun x hx => by rcases List.mem_append.1 hx with h | h; exact hb x h; exact ha x h
  apply List.ext_getElem?
  intro i
  by_cases hi : i < 65
  · rw [nth_some (by rw [histR_len]; exact hi), nth_some (by rw [histR_len]; exact hi), histR_at hab, histR_at hba]
    unfold eqB
    rw [List.countP_append, List.countP_append, Nat.add_comm]
  · rw [List.getElem?_eq_none (by rw [histR_len]; omega), List.getElem?_eq_none (by rw [histR_len]; omega)]
end Go.Proofs.YtedcdhngiofpjaaGreatDoor
