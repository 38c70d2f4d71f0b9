/- hist.buckets: the iterator's contract. -/
import Derived.Test.YtohmliockehbkaaHm
import Derived.Test.YtohmliockehbkaaRangeS
import Derived.Shelf.RegionOpen
import Derived.TacticsInMore
import Derived.LoopNIn
import Derived.LoopIn
namespace Go.Proofs.Ytohmliockehbkaa
open Go Go.Proofs Go.RowKit Go.Shelf
set_option maxRecDepth 100000
attribute [local go_sem] Oper.semAt_some
set_option maxHeartbeats 4000000 in
theorem buckets_any (h : List Int) (w : World) :
    Calls Try.prog 19 #[.agg (hc h)] w fun e w' => e = .returned (.func (.func 20) #[] #[.pointer (some ⟨w.heap.size, 0, none⟩)]) ∧ w' = w.alloc (.cells (hc h) 25) := by
  go_enter Try.func19, Try.ntmps19
  go_wp2
  go_ret
  exact ⟨rfl, rfl⟩
/-- what is handed on -/
def bkV (h : List Int) (i : Fin 65) : Array Value := #[.int .i64 (i.val : Int), .int .i64 (nth h i.val)]
theorem ix_row {h : List Int} (hl : h.length = 65) {k : Nat} (hk : k < 65) : ∀ w, (Instr.index 25 (.agg (hc h)) (.int .i64 (k : Int))).run Try.prog w = .ok (.int .i64 (nth h k)) w := fun w => by
  have e : (hc h)[k]? = some (.int .i64 (nth h k)) := by rw [hc_get, nth_some (by omega)]; rfl
  have h1 : (0 : Int) ≤ (k : Int) ∧ (k : Int) < 65 := by omega
  simp [Instr.index, asIntOf, Go.part, e, hk, Result.andThen]
set_option maxHeartbeats 8000000 in
theorem buckets_stops (T U : TypeId) (Kp : World → World → Prop) (B : Nat) (h : List Int) (w : World) (H : HAt U w B h) :
    SeqStopsS T Fence.wide 8 Try.prog 20 #[.pointer (some ⟨B, 0, none⟩)] (bkV h) Kp (fun xs _ => xs = allI) (fun pre => pre <+: allI) 65 w := by
  intro L J Jx W hW hJ hJx hY h0
  have H1 := H.below (hW.mono (Nat.le_refl _))
  have hlen := H.len
  have H0 := Lib.hid h0
  have HY := Lib.hid hY
  clear h0 hY hW H hJ hJx
  refine callsIn_of_wp Try.func20 rfl trivial ?_ rfl
  simp only [Try.ntmps20, List.size_toArray, List.length_cons, List.length_nil, Nat.reduceAdd, Nat.reduceSub, Array.replicate_succ, Array.replicate_zero, List.push_toArray, List.append_toArray, List.nil_append, List.cons_append]
  gi_wp2_with (first | (refine ldI_row rowH H1 rfl rfl rfl ?_))
  gi_loopw [6] (fun i wr => ∃ k : Nat, i = .int .i64 (k : Int) ∧ k ≤ 65 ∧ J (allI.take k) wr) (fun i _ => 65 - (intOf i).toNat)
  case atStart => exact ⟨0, rfl, by omega, H0.out⟩
  case round =>
    obtain ⟨k, rfl, hk, hJ⟩ := hrel
    have HJ := Lib.hid hJ
    clear hJ H0 H1
    by_cases hlt : k < 65
    · have hix := ix_row hlen hlt
      obtain ⟨fn, tmps, assign, body, hy, hR⟩ := HY.out (allI.take k) ⟨k, hlt⟩ wr HJ.out (by rw [List.length_take, allI_len]; omega)
      unfold bkV at hy
      have hs := take_succ hlt
      have HS := Lib.hid hs
      clear hs
      gi_wp2
      refine hR.mono ?_
      rintro e W3 (⟨rfl, hJ3, _, _⟩ | ⟨rfl, hJx3, _⟩)
      · rw [← HS.out] at hJ3
        have HJ3 := Lib.hid hJ3
        clear hR hJ3 hy
        gi_wp2
        go_roundw
        case rel => exact ⟨k + 1, rfl, by omega, HJ3.out⟩
        case measure => simp [intOf]; omega
      · have HJ3 := Lib.hid hJx3
        clear hR hJx3 hy
        gi_wp2
        refine bodyPost_ret (results_none rfl _ _ _) rfl ?_
        refine ⟨⟨_, rfl⟩, .inr ⟨_, ?_, HJ3.out⟩⟩
        rw [← HS.out]
        exact List.take_prefix _ _
    · obtain rfl : k = 65 := by omega
      gi_wp2
      go_end0
      refine ⟨⟨_, rfl⟩, .inl ⟨_, rfl, ?_⟩⟩
      have := HJ.out
      rwa [List.take_of_length_le (by rw [allI_len]; omega)] at this
end Go.Proofs.Ytohmliockehbkaa
