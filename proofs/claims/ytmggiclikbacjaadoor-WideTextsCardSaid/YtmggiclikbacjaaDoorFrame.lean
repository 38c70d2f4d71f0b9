/- What every law's card of this layer needs: the table of powers of ten is laid where the row lists it; a number's two fields are in their ranges. -/
import Derived.Test.YtmggiclikbacjaaDoorRows
import Derived.Test.YtmggiclikbacjaaDoorWalkT
import Derived.Test.YtmggiclikbacjaaDoorMath
import Derived.WalkKit
import Derived.ProofKit
import Derived.PinnedBridge
import Derived.Lay
import Derived.LaidOnce
import Derived.SevenTiedAt
import Derived.Lib.LaidU8
namespace Go.Proofs.YtmggiclikbacjaaDoor
open Go Go.Proofs Go.RowKit Go.Lib
set_option maxRecDepth 100000
theorem own : ownKnob Tryd.prog.godebug = none := by kernel_rfl
theorem cellsInt : Tryd.prog.cellsOf 24 = 2 := by kernel_rfl
theorem tab_of_reads {W : World} (h : Lib.VarReads Tryd.prog W powName Rows.laid_internal_strconv_uint64pow10) : Tab W := by
  obtain ⟨g, t, cs, fuel, p, hg, ht, hvar, hd⟩ := h
  have eg : Tryd.prog.globalNamed powName = some 2 := by kernel_rfl
  obtain rfl := Option.some.inj (eg.symm.trans hg)
  have et : (Tryd.prog.globals[2]?).map (·.type) = some 142 := by kernel_rfl
  obtain rfl := Option.some.inj (et.symm.trans ht)
  have ed : (Rows.laid_internal_strconv_uint64pow10 : DataW Unit) = Lib.tabData .u64 Lib.pow10Tab := by kernel_rfl
  rw [ed] at hd
  unfold Tab Lib.TabIs
  rw [hvar, ← Lib.cells_of_tab Tryd.underlying142 Tryd.underlying22 (by kernel_rfl) (by kernel_rfl) hd]
theorem inI_of_wf {hi lo : Int} (h1 : (Lit.int .i64 hi).wf = true) (h2 : (Lit.int .u64 lo).wf = true) : InI hi lo := by
  have a : -9223372036854775808 ≤ hi ∧ hi ≤ 9223372036854775807 := by simpa [Lit.wf, IntKind.min, IntKind.max, IntKind.signed, IntKind.bits] using h1
  have b : 0 ≤ lo ∧ lo ≤ 18446744073709551615 := by simpa [Lit.wf, IntKind.min, IntKind.max, IntKind.signed, IntKind.bits] using h2
  exact ⟨a.1, a.2, b.1, by omega⟩
end Go.Proofs.YtmggiclikbacjaaDoor
