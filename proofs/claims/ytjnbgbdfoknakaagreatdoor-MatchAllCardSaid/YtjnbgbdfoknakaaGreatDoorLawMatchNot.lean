/- belfrylaw5.MatchNot. -/
import Derived.Test.YtjnbgbdfoknakaaGreatDoorMtK
namespace Go.Proofs.YtjnbgbdfoknakaaGreatDoor
open Go Go.Proofs Go.RowKit Go.Shelf
set_option maxRecDepth 100000
theorem few_val {zs : List Lab} {ss : List SLab} (h : fewR zs = true) (hs : ss.map (·.1) = zs) : ∀ y ∈ ss, y.1.2.length ≤ 1000 := by
 intro y hy
 have hm : y.1 ∈ zs := by rw [← hs]; exact List.mem_map_of_mem hy
 unfold fewR at h
 rw [Bool.and_eq_true, List.all_eq_true] at h
 have := h.2 _ hm
 unfold fewL at this
 rw [Bool.and_eq_true, decide_eq_true_eq, decide_eq_true_eq] at this
 omega
end Go.Proofs.YtjnbgbdfoknakaaGreatDoor
