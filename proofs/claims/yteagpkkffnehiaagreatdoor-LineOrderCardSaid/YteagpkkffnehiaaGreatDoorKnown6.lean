/- belfrylaw6.known: what its calls answer. -/
import Derived.Test.YteagpkkffnehiaaGreatDoorLParse2
import Derived.Test.YteagpkkffnehiaaGreatDoorLine
namespace Go.Proofs.YteagpkkffnehiaaGreatDoor
open Go Go.Proofs Go.RowKit Go.Shelf
set_option maxRecDepth 100000
def kC : SLab := ⟨([109], [99, 112, 117]), by unfold Short; simp⟩
def kT1 : List UInt8 := [123, 109, 61, 34, 99, 112, 117, 34, 125, 32, 45, 52, 32, 64, 49, 48, 32, 35, 50, 47, 55]
def kT2 : List UInt8 := [123, 109, 61, 34, 99, 112, 117, 34, 125, 32, 32, 45, 52, 32, 64, 49, 48, 32, 35, 50, 47, 55]
def kT3 : List UInt8 := [123, 109, 61, 34, 99, 112, 117, 34, 125, 32, 45, 52, 32, 64, 49, 48, 32, 35, 49, 55, 47, 55]
theorem kc_text : textL [kC] = [123, 109, 61, 34, 99, 112, 117, 34, 125] := by decide
theorem kc_check : checkR [kC] = 0 := by decide
theorem it4 : Lib.itoa (-4) = [45, 52] := by simp [Lib.itoa, Lib.decDigits]
theorem it10 : Lib.itoa 10 = [49, 48] := by simp [Lib.itoa, Lib.decDigits]
theorem it2 : Lib.itoa 2 = [50] := by simp [Lib.itoa, Lib.decDigits]
theorem it7 : Lib.itoa 7 = [55] := by simp [Lib.itoa, Lib.decDigits]
theorem it17 : Lib.itoa 17 = [49, 55] := by simp [Lib.itoa, Lib.decDigits]
theorem kt1_is : lineR [kC] (-4) 10 2 7 = kT1 := by
  rw [lineR_tail, kc_text]; unfold tailR; rw [it4, it10, it2, it7]; rfl
theorem kt3_is : lineR [kC] (-4) 10 17 7 = kT3 := by
  rw [lineR_tail, kc_text]; unfold tailR; rw [it4, it10, it17, it7]; rfl
/-- Parse of any set's line that label.Parse takes -/
theorem lparse_line (zs : List SLab) (hz : checkR zs = 0) (va tm sr sq : Int) (k0 : I64 va) (k1 : I64 tm) (k2 : I64 sr) (k3 : I64 sq) (w : World) (ht : Tab w) (he : ErrsOk w) :
    Calls Tryz.prog 13 #[.string ⟨(lineR zs va tm sr sq).toArray⟩] w fun e w' => (sampR zs tm sr sq = 0 ∧ (∃ v, e = .returned (.tuple #[sampV v va tm sr sq, .int .i64 0]) ∧ Labs w'.heap.size w' v zs) ∨ sampR zs tm sr sq ≠ 0 ∧ e = .returned (.tuple #[sampV (.slice none 0 0) 0 0 0 0, .int .i64 (sampR zs tm sr sq)])) ∧ Below w.heap.size w w' := by
  have hl := (check_zero hz).1
  have hd : (lineR zs va tm sr sq).drop (textL zs).length = tailR va tm sr sq := by rw [lineR_tail, List.drop_left]
  have htk : (lineR zs va tm sr sq).take (textL zs).length = textL zs := by rw [lineR_tail, List.take_left]
  obtain ⟨h1, h2⟩ := tail_run va tm sr sq k0 k1 k2 k3
  refine lparse_ok (lineR zs va tm sr sq) (line_len zs (by omega) va tm sr sq k0 k1 k2 k3) (textL zs).length (by rw [lineR_tail, List.length_append]; omega) (last_line zs va tm sr sq) va tm sr sq (by rw [hd]; exact h1) (by rw [hd]; exact h2) zs (by omega) w ht he ?_
  intro W hW
  rw [htk]
  exact parse_text zs hz W
theorem k_p1 (w : World) (ht : Tab w) (he : ErrsOk w) : Calls Tryz.prog 13 #[.string ⟨#[123, 109, 61, 34, 99, 112, 117, 34, 125, 32, 45, 52, 32, 64, 49, 48, 32, 35, 50, 47, 55]⟩] w fun e w' => (∃ v, e = .returned (.tuple #[sampV v (-4) 10 2 7, .int .i64 0]) ∧ Labs w'.heap.size w' v [kC]) ∧ Below w.heap.size w w' := by
  have h := lparse_line [kC] kc_check (-4) 10 2 7 (by unfold I64; omega) (by unfold I64; omega) (by unfold I64; omega) (by unfold I64; omega) w ht he
  rw [kt1_is] at h
  refine h.mono ?_
  rintro e w' ⟨⟨_, h1⟩ | ⟨h1, _⟩, h2⟩
  · exact ⟨h1, h2⟩
  · exact absurd (show sampR [kC] 10 2 7 = 0 by decide) h1
theorem k_p3 (w : World) (ht : Tab w) (he : ErrsOk w) : Calls Tryz.prog 13 #[.string ⟨#[123, 109, 61, 34, 99, 112, 117, 34, 125, 32, 45, 52, 32, 64, 49, 48, 32, 35, 49, 55, 47, 55]⟩] w fun e w' => e = .returned (.tuple #[sampV (.slice none 0 0) 0 0 0 0, .int .i64 1]) ∧ Below w.heap.size w w' := by
  have h := lparse_line [kC] kc_check (-4) 10 17 7 (by unfold I64; omega) (by unfold I64; omega) (by unfold I64; omega) (by unfold I64; omega) w ht he
  rw [kt3_is, show sampR [kC] 10 17 7 = 1 by decide] at h
  refine h.mono ?_
  rintro e w' ⟨⟨h1, _⟩ | ⟨_, h1⟩, h2⟩
  · exact absurd h1 (by decide)
  · exact ⟨h1, h2⟩
theorem k_p2 (w : World) (ht : Tab w) (he : ErrsOk w) : Calls Tryz.prog 13 #[.string ⟨#[123, 109, 61, 34, 99, 112, 117, 34, 125, 32, 32, 45, 52, 32, 64, 49, 48, 32, 35, 50, 47, 55]⟩] w fun e w' => e = .returned (.tuple #[sampV (.slice none 0 0) 0 0 0 0, .int .i64 2]) ∧ Below w.heap.size w w' := by
  have hi := last_at [123, 109, 61, 34, 99, 112, 117, 34] [32, 32, 45, 52, 32, 64, 49, 48, 32, 35, 50, 47, 55] (by decide)
  refine lparse_bad kT2 (by decide) 9 (by decide) ?_ ?_ w ht he
  · have : Lib.lastIndexByte ⟨kT2.toArray⟩ 125 = 8 := hi
    rw [this]; rfl
  · have hb : behindR 0 (kT2.drop 9) = [32, 45, 52, 32, 64, 49, 48, 32, 35, 50, 47, 55] := by decide
    have hr : restR 0 (kT2.drop 9) = [32, 45, 52, 32, 64, 49, 48, 32, 35, 50, 47, 55] := by decide
    have hn : numR 0 (kT2.drop 9) = [] := by unfold numR; rw [hb, hr]; rfl
    have h0 : Lib.itoa 0 = [48] := by simp [Lib.itoa, Lib.decDigits]
    have ho : okR 0 (kT2.drop 9) = false := by
      unfold okR
      rw [hn, show numOf [] = 0 from rfl, h0]
      simp
    unfold numsOk allR allRa
    rw [ho]; rfl
theorem k_text (a : Option Addr) (n cap : Nat) (w : World) (ht : Tab w) (hI : Labs w.heap.size w (.slice a n cap) [kC]) : Calls Tryz.prog 12 #[sampV (.slice a n cap) (-4) 10 2 7] w fun e w' => e = .returned (.string ⟨#[123, 109, 61, 34, 99, 112, 117, 34, 125, 32, 45, 52, 32, 64, 49, 48, 32, 35, 50, 47, 55]⟩) ∧ Below w.heap.size w w' := by
  have h := lineText_any a n cap [kC] (by decide) (-4) 10 2 7 (by unfold I64; omega) (by unfold I64; omega) (by unfold I64; omega) (by unfold I64; omega) w ht hI
  rw [kt1_is] at h
  exact h
theorem k_check (a : Option Addr) (n cap : Nat) (w : World) (hI : Labs w.heap.size w (.slice a n cap) [kC]) : Calls Tryz.prog 10 #[sampV (.slice a n cap) (-4) 10 2 7] w fun e w' => e = .returned (.int .i64 0) ∧ Below w.heap.size w w' := by
  have h := lcheck_any a n cap [kC] (by decide) (-4) 10 2 7 w hI
  rw [show sampR [kC] 10 2 7 = 0 by decide] at h
  exact h
end Go.Proofs.YteagpkkffnehiaaGreatDoor
