/- belfrylaw3.known. -/
import Derived.Test.YtmcmgmpgmbljiaaDoorBack
import Derived.Test.YtmcmgmpgmbljiaaDoorWith
import Derived.Test.YtmcmgmpgmbljiaaDoorGet
namespace Go.Proofs.YtmcmgmpgmbljiaaDoor
open Go Go.Proofs Go.RowKit Go.Shelf
set_option maxRecDepth 100000
def kA : SLab := ⟨([97], [49]), by unfold Short; simp⟩
def kB : SLab := ⟨([98], [120, 34, 121]), by unfold Short; simp⟩
def kS : List SLab := [kA, kB]
theorem at_of_row {w : World} {base e k n g cap : Nat} {xs : List Value} (h : w.ownsRow base e k (.slice (some ⟨g, 0, none⟩) n cap) n xs) : At w g xs := by
  obtain ⟨_, ⟨h, _⟩ | ⟨g', cap', cur, e', hbg, hgb, hnc, hcm, hcs, htk⟩⟩ := h
  · cases h
  obtain ⟨rfl, rfl⟩ : g = g' ∧ cap = cap' := by simpa using e'
  refine ⟨(Array.getElem?_eq_some_iff.1 hgb).1, fun j v hj => ?_, fun j v hj => ?_⟩
  · rw [← htk, List.getElem?_take] at hj
    split at hj
    · exact blk_cell (W := w) (B := g) (t := e) hgb (by simpa using hj)
    · cases hj
  · simp [World.frozen?, hgb]
theorem labs_of_at {w : World} {g cap : Nat} {zs : List SLab} (h : At w g (labC zs)) : Labs w.heap.size w (.slice (some ⟨g, 0, none⟩) zs.length cap) zs :=
  .inr ⟨g, 0, cap, rfl, h.lt, fun j x hj => ⟨by simpa using h.cell _ _ (labC_at zs j x hj).1, by simpa using h.cell _ _ (labC_at zs j x hj).2⟩⟩
theorem labs_later {W w1 : World} {v : Value} {zs : List SLab} (h : Labs W.heap.size W v zs) (hb : Below W.heap.size W w1) : Labs w1.heap.size w1 v zs := by
  rcases h.below hb with e | ⟨b, off, cap, e, h1, h2⟩
  · exact .inl e
  · exact .inr ⟨b, off, cap, e, Nat.lt_of_lt_of_le h1 hb.size, h2⟩
theorem k_with1 (w : World) : Calls Tryd.prog 33 #[.slice none 0 0, .string ⟨#[98]⟩, .string ⟨#[120, 34, 121]⟩] w (NewLabs w [kB]) := by
  have h := with_any none 0 0 [] (by simp) [98] [120, 34, 121] kB.2 0 (Nat.zero_le _) (fun k x hx => by simp [othersR] at hx) w (.inl ⟨⟨_, _, rfl⟩, rfl⟩)
  have e : withR [] [98] [120, 34, 121] kB.2 0 = [kB] := by unfold withR; rw [if_neg (by simp)]; rfl
  rw [e] at h
  exact h
theorem k_with2 (a : Option Addr) (cap : Nat) (w : World) (hI : Labs w.heap.size w (.slice a 1 cap) [kB]) : Calls Tryd.prog 33 #[.slice a 1 cap, .string ⟨#[97]⟩, .string ⟨#[49]⟩] w (NewLabs w kS) := by
  have ho : othersR [kB] [97] = [kB] := by decide
  have h := with_any a 1 cap [kB] (by simp) [97] [49] kA.2 0 (Nat.zero_le _) (fun k x hx => by
    rw [ho] at hx
    rcases k with _ | k
    · simp at hx; subst hx; constructor
      · intro h; revert h; decide
      · intro h; omega
    · simp at hx) w hI
  have e : withR [kB] [97] [49] kA.2 0 = kS := by unfold withR; rw [if_neg (by simp), ho]; rfl
  rw [e] at h
  exact h
theorem k_with3 (a : Option Addr) (cap : Nat) (w : World) (hI : Labs w.heap.size w (.slice a 2 cap) kS) : Calls Tryd.prog 33 #[.slice a 2 cap, .string ⟨#[97]⟩, .string ⟨#[]⟩] w (NewLabs w [kB]) := by
  have ho : othersR kS [97] = [kB] := by decide
  have h := with_any a 2 cap kS (by decide) [97] [] (by unfold Short; simp) 0 (Nat.zero_le _) (fun k x hx => by
    rw [ho] at hx
    rcases k with _ | k
    · simp at hx; subst hx; constructor
      · intro h; revert h; decide
      · intro h; omega
    · simp at hx) w hI
  have e : withR kS [97] [] (by unfold Short; simp) 0 = [kB] := by unfold withR; rw [if_pos rfl, ho]
  rw [e] at h
  exact h
theorem k_check : checkR kS = 0 := by decide
theorem k_text : textL kS = [123, 97, 61, 34, 49, 34, 44, 98, 61, 34, 120, 92, 34, 121, 34, 125] := by decide
theorem k_parse1 (w : World) : Calls Tryd.prog 14 #[.string ⟨#[123, 97, 61, 34, 49, 34, 44, 98, 61, 34, 120, 92, 34, 121, 34, 125]⟩] w fun e w' => ∃ v, e = .returned (.tuple #[v, .int .i64 0]) ∧ Labs w'.heap.size w' v kS ∧ Below w.heap.size w w' := by
  have h := parse_text kS k_check w
  rw [k_text] at h
  exact h
theorem k_parse2 (w : World) : Calls Tryd.prog 14 #[.string ⟨#[123, 97, 61, 49, 125]⟩] w fun e w' => e = .returned (.tuple #[.slice none 0 0, .int .i64 2]) ∧ Below w.heap.size w w' := by
  have ht : takeL [123] [123, 97, 61, 49, 125] = none := by
    unfold takeL
    split
    · rfl
    · rw [if_neg (by decide)]
  have hz : WrS [123, 97, 61, 49, 125] [(nilLab, false)] := by
    unfold WrS
    rw [if_neg (by decide)]
    unfold Wr
    rw [ht]
    exact ⟨rfl, rfl⟩
  have hpc : parseC [(nilLab, false)] = 2 := by unfold parseC; rw [if_neg]; intro h; have := h _ List.mem_cons_self; cases this
  refine (parse_any [123, 97, 61, 49, 125] (by simp) _ hz (by simp) w).mono ?_
  rintro e w' ⟨v, rfl, _, h2, h3⟩
  rw [hpc] at h2 ⊢
  rw [h2 (by decide)]
  exact ⟨rfl, h3⟩
theorem k_only (a : Option Addr) (cap : Nat) (nb : Nat) (w : World) (hI : Labs w.heap.size w (.slice a 2 cap) kS) (hN : At w nb [.string ⟨#[98]⟩, .string ⟨#[99]⟩]) : Calls Tryd.prog 27 #[.slice a 2 cap, .slice (some ⟨nb, 0, none⟩) 2 2] w (NewLabs w [kB]) := by
  have h := only_any a (some ⟨nb, 0, none⟩) 2 cap 2 2 [[98], [99]] kS (by decide) w hI (.inr ⟨nb, 0, 2, rfl, hN.lt, by simp, fun j x hj => by
    rcases j with _ | _ | j
    · simp at hj; subst hj; simpa using hN.cell 0 _ rfl
    · simp at hj; subst hj; simpa using hN.cell 1 _ rfl
    · simp at hj⟩)
  have e : kS.filter (keepB [[98], [99]] true) = [kB] := by decide
  rw [e] at h
  exact h
theorem k_without (a : Option Addr) (cap : Nat) (nb : Nat) (w : World) (hI : Labs w.heap.size w (.slice a 2 cap) kS) (hN : At w nb [.string ⟨#[98]⟩]) : Calls Tryd.prog 29 #[.slice a 2 cap, .slice (some ⟨nb, 0, none⟩) 1 1] w (NewLabs w [kA]) := by
  have h := without_any a (some ⟨nb, 0, none⟩) 2 cap 1 1 [[98]] kS (by decide) w hI (.inr ⟨nb, 0, 1, rfl, hN.lt, by simp, fun j x hj => by
    rcases j with _ | j
    · simp at hj; subst hj; simpa using hN.cell 0 _ rfl
    · simp at hj⟩)
  have e : kS.filter (keepB [[98]] false) = [kA] := by decide
  rw [e] at h
  exact h
theorem k_get1 (a : Option Addr) (cap : Nat) (w : World) (hI : Labs w.heap.size w (.slice a 2 cap) kS) : Calls Tryd.prog 25 #[.slice a 2 cap, .string ⟨#[98]⟩] w fun e w' => e = .returned (.string ⟨#[120, 34, 121]⟩) ∧ Below w.heap.size w w' := by
  have h := get_any a 2 cap kS (by decide) [98] w hI
  rw [show getR [98] kS = [120, 34, 121] from by decide] at h
  exact h
theorem k_get2 (a : Option Addr) (cap : Nat) (w : World) (hI : Labs w.heap.size w (.slice a 2 cap) kS) : Calls Tryd.prog 25 #[.slice a 2 cap, .string ⟨#[99]⟩] w fun e w' => e = .returned (.string ⟨#[]⟩) ∧ Below w.heap.size w w' := by
  have h := get_any a 2 cap kS (by decide) [99] w hI
  rw [show getR [99] kS = [] from by decide] at h
  exact h
theorem k_textS (a : Option Addr) (cap : Nat) (w : World) (hI : Labs w.heap.size w (.slice a 2 cap) kS) : Calls Tryd.prog 13 #[.slice a 2 cap] w fun e w' => e = .returned (.string ⟨#[123, 97, 61, 34, 49, 34, 44, 98, 61, 34, 120, 92, 34, 121, 34, 125]⟩) ∧ Below w.heap.size w w' := by
  have h := ltext_any a 2 cap kS (by decide) w hI
  rw [show (runS kS).1 ++ [125] = [123, 97, 61, 34, 49, 34, 44, 98, 61, 34, 120, 92, 34, 121, 34, 125] from k_text] at h
  exact h
theorem k_text0 (w : World) : Calls Tryd.prog 13 #[.slice none 0 0] w fun e w' => e = .returned (.string ⟨#[123, 125]⟩) ∧ Below w.heap.size w w' :=
  ltext_any none 0 0 [] (by simp) w (.inl ⟨⟨_, _, rfl⟩, rfl⟩)
theorem k_checkS (a : Option Addr) (cap : Nat) (w : World) (hI : Labs w.heap.size w (.slice a 2 cap) kS) : Calls Tryd.prog 12 #[.slice a 2 cap] w fun e w' => e = .returned (.int .i64 0) ∧ Below w.heap.size w w' := by
  have h := check_any a 2 cap kS (by decide) w hI
  rw [k_check] at h
  exact h
theorem k_name1 (w : World) : Calls Tryd.prog 35 #[.string ⟨#[97, 95, 49]⟩] w fun e w' => e = .returned (.bool true) ∧ Below w.heap.size w w' := by
  have h := name_any [97, 95, 49] w
  rw [show nameR [97, 95, 49] = true from by decide] at h
  exact h
theorem k_name2 (w : World) : Calls Tryd.prog 35 #[.string ⟨#[49, 97]⟩] w fun e w' => e = .returned (.bool false) ∧ Below w.heap.size w w' := by
  have h := name_any [49, 97] w
  rw [show nameR [49, 97] = false from by decide] at h
  exact h
theorem k_value (w : World) : Calls Tryd.prog 36 #[.string ⟨#[120]⟩] w fun e w' => e = .returned (.bool true) ∧ Below w.heap.size w w' := by
  have h := value_any [120] w
  rw [show valueR [120] = true from by decide] at h
  exact h
end Go.Proofs.YtmcmgmpgmbljiaaDoor
