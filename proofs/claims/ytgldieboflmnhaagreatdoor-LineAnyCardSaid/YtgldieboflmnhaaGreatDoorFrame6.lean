/- What every law's card of this layer needs: the table of powers of ten, the errors of numbers, where the row lists them. -/
import Derived.Test.YtgldieboflmnhaaGreatDoorPNums
import Derived.WalkKit
import Derived.ProofKit
import Derived.PinnedBridge
import Derived.Lay
import Derived.LaidOnce
import Derived.SevenTiedAt
import Derived.Lib.LaidU8
namespace Go.Proofs.YtgldieboflmnhaaGreatDoor
open Go Go.Proofs Go.RowKit Go.Lib
set_option maxRecDepth 100000
theorem own : ownKnob Tryz.prog.godebug = none := by kernel_rfl
theorem tab_of_reads {W : World} (h : Lib.VarReads Tryz.prog W powName Rows.laid_internal_strconv_uint64pow10) : Tab W := by
  obtain ⟨g, t, cs, fuel, p, hg, ht, hvar, hd⟩ := h
  have eg : Tryz.prog.globalNamed powName = some 1 := by kernel_rfl
  obtain rfl := Option.some.inj (eg.symm.trans hg)
  have et : (Tryz.prog.globals[1]?).map (·.type) = some 145 := by kernel_rfl
  obtain rfl := Option.some.inj (et.symm.trans ht)
  have ed : (Rows.laid_internal_strconv_uint64pow10 : DataW Unit) = Lib.tabData .u64 Lib.pow10Tab := by kernel_rfl
  rw [ed] at hd
  unfold Tab Lib.TabIs
  rw [hvar, ← Lib.cells_of_tab Tryz.underlying145 Tryz.underlying97 (by kernel_rfl) (by kernel_rfl) hd]
theorem trod_iface {H : Type} {enc : TypeId × Value → H} {P : Program} {w : World} {base : Nat} {spare : Nat → Bool} {fuel : Nat} {t : TypeId} {cs : List Value} {nm : String} {x : DataW H} {p : List MemPlace}
    (h : DataW.trod enc P w base spare false fuel t cs = some (.iface nm x, p)) : ∃ u v, cs = [.iface u v] := by
  cases fuel with
  | zero => simp [DataW.trod] at h
  | succ fuel =>
    unfold DataW.trod at h
    split at h
    all_goals first
      | exact ⟨_, _, rfl⟩
      | (exfalso; simp at h; done)
      | (exfalso; split at h <;> simp at h <;> done)
      | (exfalso; simp [Option.map_eq_some_iff, Option.bind_eq_some_iff] at h; done)
      | (exfalso; split at h <;> simp [Option.map_eq_some_iff, Option.bind_eq_some_iff] at h <;> done)
theorem var_of_reads {W : World} {s : String} {d : DataW Unit} {nm : String} {x : DataW Unit} (h : Lib.VarReads Tryz.prog W s d) (hd : d = .iface nm x) : ∃ tp p, W.var? Tryz.prog s = some #[.iface tp p] := by
  obtain ⟨g, t, cs, fuel, p, hg, ht, hvar, hr⟩ := h
  rw [hd] at hr
  obtain ⟨u, v, e⟩ := trod_iface hr
  refine ⟨u, v, ?_⟩
  rw [hvar]
  congr 1
  apply Array.toList_inj.1
  rw [e]
end Go.Proofs.YtgldieboflmnhaaGreatDoor
