/- The numbers of times and spans: Check, Add, Floor, Next; the reference's Time, AddTime, Floor, Next. -/
import Derived.Test.YtmiahbaadlddjaaDoorProg
import Derived.Test.YtmiahbaadlddjaaDoorAt
import Derived.Tactics
import Derived.Tactics2
import Derived.WalkKit
import Derived.Outline
import Derived.Handy
import Derived.Deep.RegionHeld3
import Derived.Deep.DeepCutAuto
import Derived.Deep.QuietTactic
import Derived.BigQuiet
import Derived.KernelRfl
import Derived.WalkSpells
import Derived.WalkLawsBesides
import Derived.Laws.StructEq
import Derived.Lib.Hide
import Derived.LoopTactic
namespace Go.Proofs.YtmiahbaadlddjaaDoor
open Go Go.Proofs Go.RowKit
set_option maxRecDepth 100000
/-- is t a time, or how long -/
def isT (t : Int) : Bool := decide (0 ≤ t ∧ t ≤ 4398046511104)
theorem isT_true {t : Int} : isT t = true ↔ 0 ≤ t ∧ t ≤ 4398046511104 := by unfold isT; exact decide_eq_true_iff
theorem isT_false {t : Int} : isT t = false ↔ t < 0 ∨ 4398046511104 < t := by unfold isT; rw [decide_eq_false_iff_not]; omega
theorem check_yes (t : Int) (h : isT t = true) (W : World) : Calls Tryd.prog 15 #[.int .i64 t] W fun e w' => e = .returned (.int .i64 0) ∧ W = w' := by
  obtain ⟨h1, h2⟩ := isT_true.1 h
  clear h
  go_enter Tryd.func15, Tryd.ntmps15
  go_wp2
  go_ret
  exact ⟨rfl, rfl⟩
theorem check_no (t : Int) (h : isT t = false) (W : World) : Calls Tryd.prog 15 #[.int .i64 t] W fun e w' => e = .returned (.int .i64 1) ∧ W = w' := by
  have hh := isT_false.1 h
  clear h
  by_cases h1 : t < 0
  · clear hh
    go_enter Tryd.func15, Tryd.ntmps15
    go_wp2
    go_ret
    exact ⟨rfl, rfl⟩
  · have h2 : 4398046511104 < t := by omega
    clear hh
    go_enter Tryd.func15, Tryd.ntmps15
    go_wp2
    go_ret
    exact ⟨rfl, rfl⟩
theorem time_yes (t : Int) (h : isT t = true) (W : World) : Calls Tryd.prog 16 #[.int .i64 t] W fun e w' => e = .returned (.int .i64 0) ∧ W = w' := by
  obtain ⟨h1, h2⟩ := isT_true.1 h
  clear h
  go_enter Tryd.func16, Tryd.ntmps16
  go_wp2
  go_ret
  exact ⟨rfl, rfl⟩
theorem time_no (t : Int) (h : isT t = false) (W : World) : Calls Tryd.prog 16 #[.int .i64 t] W fun e w' => e = .returned (.int .i64 1) ∧ W = w' := by
  have hh := isT_false.1 h
  clear h
  by_cases h1 : t < 0
  · clear hh
    go_enter Tryd.func16, Tryd.ntmps16
    go_wp2
    go_ret
    exact ⟨rfl, rfl⟩
  · have h2 : 4398046511104 < t := by omega
    clear hh
    go_enter Tryd.func16, Tryd.ntmps16
    go_wp2
    go_ret
    exact ⟨rfl, rfl⟩
/-- 0 and what Check says, by whether it may be -/
def eOf : Bool → Int
  | true => 0
  | false => 1
theorem check_any (t : Int) (W : World) : Calls Tryd.prog 15 #[.int .i64 t] W fun e w' => e = .returned (.int .i64 (eOf (isT t))) ∧ W = w' := by
  cases h : isT t
  · exact check_no t h W
  · exact check_yes t h W
theorem time_any (t : Int) (W : World) : Calls Tryd.prog 16 #[.int .i64 t] W fun e w' => e = .returned (.int .i64 (eOf (isT t))) ∧ W = w' := by
  cases h : isT t
  · exact time_no t h W
  · exact time_yes t h W
end Go.Proofs.YtmiahbaadlddjaaDoor
