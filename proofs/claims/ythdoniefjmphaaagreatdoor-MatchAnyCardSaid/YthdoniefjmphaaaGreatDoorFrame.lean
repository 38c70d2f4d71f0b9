/- What every law's card of this layer needs: the table of trailing zeros is laid where the row lists it. -/
import Derived.Test.YthdoniefjmphaaaGreatDoorRows
import Derived.Test.YthdoniefjmphaaaGreatDoorNet
import Derived.WalkKit
import Derived.ProofKit
import Derived.PinnedBridge
import Derived.Lay
import Derived.LaidOnce
import Derived.SevenTiedAt
import Derived.Lib.LaidU8
namespace Go.Proofs.YthdoniefjmphaaaGreatDoor
open Go Go.Proofs Go.RowKit Go.Lib
set_option maxRecDepth 100000
def tabName : String := "math/bits.deBruijn64tab"
theorem own : ownKnob Tryz.prog.godebug = none := by kernel_rfl
theorem tab_of_reads {W : World} (h : Lib.VarReads Tryz.prog W tabName Rows.laid_math_bits_deBruijn64tab) : Tab W := by
 obtain ⟨g, t, cs, fuel, p, hg, ht, hvar, hd⟩ := h;have eg : Tryz.prog.globalNamed tabName = some 3 := by kernel_rfl
 obtain rfl := Option.some.inj (eg.symm.trans hg);have et : (Tryz.prog.globals[3]?).map (·.type) = some 185 := by kernel_rfl
 obtain rfl := Option.some.inj (et.symm.trans ht);have ed : (Rows.laid_math_bits_deBruijn64tab : DataW Unit) = Lib.tabData .u8 (Lib.deBruijn64tab.map (fun (n : Nat) => (n : Int))) := by kernel_rfl
 rw [ed] at hd;have hcs := Lib.cells_of_tab Tryz.underlying185 Tryz.underlying5 (by kernel_rfl) (by kernel_rfl) hd;refine ⟨?_, fun j hj => ?_⟩
 ·
  rcases Nat.lt_or_ge 3 W.heap.size with h | h
  ·
   exact h
  ·
   unfold World.var? at hvar;rw [eg] at hvar;simp only [Option.bind_some] at hvar;rw [Array.getElem?_eq_none h] at hvar;cases hvar
 ·
  have h1 : cs = (Lib.deBruijn64tab.map (fun (n : Nat) => Value.int .u8 ((n : Nat) : Int))).toArray := by
   apply Array.toList_inj.1;rw [hcs, List.map_map]; rfl
  rw [World.var?_cell eg hvar j, h1];have hl : j < Lib.deBruijn64tab.length := hj;simp [List.getD, hl]
end Go.Proofs.YthdoniefjmphaaaGreatDoor
