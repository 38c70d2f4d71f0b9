/- What every law's card of this layer needs: the table of powers of ten is laid where the row lists it. -/
import Derived.Test.YtmiahbaadlddjaaDoorRows
import Derived.Test.YtmiahbaadlddjaaDoorKnown
import Derived.WalkKit
import Derived.ProofKit
import Derived.PinnedBridge
import Derived.Lay
import Derived.LaidOnce
import Derived.SevenTiedAt
import Derived.Lib.LaidU8
namespace Go.Proofs.YtmiahbaadlddjaaDoor
open Go Go.Proofs Go.RowKit Go.Lib
set_option maxRecDepth 100000
theorem own : ownKnob Tryd.prog.godebug = none := by kernel_rfl
theorem tab_of_reads {W : World} (h : Lib.VarReads Tryd.prog W powName Rows.laid_internal_strconv_uint64pow10) : Tab W := by
  obtain ⟨g, t, cs, fuel, p, hg, ht, hvar, hd⟩ := h
  have eg : Tryd.prog.globalNamed powName = some 0 := by kernel_rfl
  obtain rfl := Option.some.inj (eg.symm.trans hg)
  have et : (Tryd.prog.globals[0]?).map (·.type) = some 110 := by kernel_rfl
  obtain rfl := Option.some.inj (et.symm.trans ht)
  have ed : (Rows.laid_internal_strconv_uint64pow10 : DataW Unit) = Lib.tabData .u64 Lib.pow10Tab := by kernel_rfl
  rw [ed] at hd
  unfold Tab Lib.TabIs
  rw [hvar, ← Lib.cells_of_tab Tryd.underlying110 Tryd.underlying48 (by kernel_rfl) (by kernel_rfl) hd]
end Go.Proofs.YtmiahbaadlddjaaDoor
