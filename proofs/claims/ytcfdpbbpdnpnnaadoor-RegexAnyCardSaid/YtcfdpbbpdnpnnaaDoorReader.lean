/- regex's reader: peek, skip. -/
import Derived.Test.YtcfdpbbpdnpnnaaDoorSet
import Derived.Deep.RegionHeld3
import Derived.Lib.Strings
import Derived.Lib.IndexBytes
import Derived.Deep.DeepCutAuto
import Derived.Deep.QuietTactic
import Derived.BigQuiet
import Derived.Outline
import Derived.WalkLawsBesides
namespace Go.Proofs.YtcfdpbbpdnpnnaaDoor
open Go Go.Proofs Go.RowKit Go.Shelf
set_option maxRecDepth 100000
/-- the byte at a place of a text, 0 at its end -/
def peekN (l : List UInt8) (k : Nat) : Nat := (l[k]?.map (·.toNat)).getD 0
theorem peek_any (b : Nat) (s : ByteArray) (l : List UInt8) (hud : s.data.toList = l) (hl : l.length ≤ 1000) (k : Nat) (hk : k ≤ l.length) (w : World)
    (c0 : w.cell? ⟨b, 0, none⟩ = some (.string s)) (c1 : w.cell? ⟨b, 1, none⟩ = some (.int .i64 (k : Int))) :
    Calls Tryd.prog 47 #[.pointer (some ⟨b, 0, none⟩)] w fun e w' => e = .returned (.int .u8 (peekN l k : Int)) ∧ Below w.heap.size w w' := by
  have hsz : s.size = l.length := by rw [Lib.size_eq, hud]
  by_cases h : k = l.length
  · have P : Hid (peekN l k = 0) := by unfold Hid peekN; rw [h, List.getElem?_eq_none (Nat.le_refl _)]; rfl
    have q : ((k : Int) == (s.size : Int)) = true := by rw [beq_iff_eq]; omega
    clear h hud
    go_enter Tryd.func47, Tryd.ntmps47
    go_wp2
    go_region
    all_goals
      go_wp2
      go_ret
      exact ⟨by rw [P.out]; rfl, by go_grown⟩
  · have hi : k < s.size := by omega
    have hcl := Lib.data_getElem? s k hi
    rw [hud] at hcl
    have P : Hid (peekN l k = (s[k]'hi).toNat) := by unfold Hid peekN; rw [hcl]; rfl
    have q : ((k : Int) == (s.size : Int)) = false := by rw [beq_eq_false_iff_ne]; omega
    have h0 : (0 : Int) ≤ (k : Int) := by omega
    have h1 : (k : Int) < (s.size : Int) := by omega
    have h2 : k < l.length := by omega
    clear hud hcl
    go_enter Tryd.func47, Tryd.ntmps47
    go_wp2
    go_region
    all_goals
      go_wp2
      go_region
    all_goals
      go_wp2
      go_ret
      exact ⟨by rw [P.out]; rfl, by go_grown⟩
end Go.Proofs.YtcfdpbbpdnpnnaaDoor
