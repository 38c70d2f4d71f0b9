/- belfrylaw3.Few; belfryref9.Check. -/
import Derived.Test.YtmcmgmpgmbljiaaDoorRefN
import Derived.Test.YtmcmgmpgmbljiaaDoorCheck
import Derived.Deep.RegionLaw
namespace Go.Proofs.YtmcmgmpgmbljiaaDoor
open Go Go.Proofs Go.RowKit Go.Shelf
set_option maxRecDepth 100000
/-- labels of whatever length in memory -/
def LabsG (n₀ : Nat) (W : World) (sv : Value) (zs : List Lab) : Prop :=
  ((∃ a c, sv = .slice a 0 c) ∧ zs = []) ∨ ∃ b off cap, sv = .slice (some ⟨b, off, none⟩) zs.length cap ∧ b < n₀ ∧ ∀ j x, zs[j]? = some x →
    W.cell? ⟨b, off + j * 2, none⟩ = some (.string ⟨x.1.toArray⟩) ∧ W.cell? ⟨b, off + j * 2 + 1, none⟩ = some (.string ⟨x.2.toArray⟩)
theorem LabsG.below {n₀ : Nat} {A B : World} (h : Below n₀ A B) {sv : Value} {zs : List Lab} : LabsG n₀ A sv zs → LabsG n₀ B sv zs
  | .inl e => .inl e
  | .inr ⟨b, off, cap, e, hb, hc⟩ => .inr ⟨b, off, cap, e, hb, fun j x hj => ⟨(h.cell (p := ⟨b, off + j * 2, none⟩) hb).trans (hc j x hj).1, (h.cell (p := ⟨b, off + j * 2 + 1, none⟩) hb).trans (hc j x hj).2⟩⟩
theorem Labs.toG {n₀ : Nat} {W : World} {sv : Value} {zs : List SLab} : Labs n₀ W sv zs → LabsG n₀ W sv (zs.map (·.1))
  | .inl ⟨e, h⟩ => .inl ⟨e, by rw [h]; rfl⟩
  | .inr ⟨b, off, cap, e, hb, hc⟩ => .inr ⟨b, off, cap, by rw [List.length_map]; exact e, hb, fun j x hj => by
      rw [List.getElem?_map] at hj
      cases h : zs[j]? with
      | none => rw [h] at hj; cases hj
      | some y => rw [h] at hj; cases hj; exact hc j y h⟩
theorem LabsG.toS {n₀ : Nat} {W : World} {sv : Value} {zs : List SLab} : LabsG n₀ W sv (zs.map (·.1)) → Labs n₀ W sv zs
  | .inl ⟨e, h⟩ => .inl ⟨e, by simpa using h⟩
  | .inr ⟨b, off, cap, e, hb, hc⟩ => .inr ⟨b, off, cap, by rw [List.length_map] at e; exact e, hb, fun j x hj => hc j x.1 (by rw [List.getElem?_map, hj]; rfl)⟩
theorem LabsG.len {n₀ : Nat} {W : World} {a : Option Addr} {len cap : Nat} {zs : List Lab} (h : LabsG n₀ W (.slice a len cap) zs) : len = zs.length := by
  rcases h with ⟨⟨_, _, e⟩, rfl⟩ | ⟨b, off, c, e, _⟩
  · injection e
  · injection e
def fewL (x : Lab) : Bool := decide (x.1.length ≤ 100) && decide (x.2.length ≤ 200)
def fewR (zs : List Lab) : Bool := decide (zs.length ≤ 30) && zs.all fewL
theorem few_any (a : Option Addr) (len cap : Nat) (zs : List Lab) (hlen : zs.length ≤ 9223372036854775807) (hbig : ∀ x ∈ zs, x.1.length ≤ 9223372036854775807 ∧ x.2.length ≤ 9223372036854775807) (n₀ : Nat) (w : World) (hI : LabsG n₀ w (.slice a len cap) zs) :
    Calls Tryd.prog 9 #[.slice a len cap] w fun e w' => e = .returned (.bool (fewR zs)) ∧ w = w' := by
  obtain rfl : len = zs.length := hI.len
  by_cases h30 : 30 < zs.length
  · have hz : (30 : Int) < (zs.length : Int) := by omega
    have HR : Hid (fewR zs = false) := by unfold Hid fewR; rw [decide_eq_false (by omega)]; rfl
    go_enter Tryd.func9, Tryd.ntmps9
    go_wp2
    go_ret
    exact ⟨by rw [HR.out]; rfl, rfl⟩
  have hz : ¬ (30 : Int) < (zs.length : Int) := by omega
  have HR : Hid (fewR zs = zs.all fewL) := by unfold Hid fewR; rw [decide_eq_true (by omega)]; rfl
  have HI := Lib.hid hI
  have HB := Lib.hid hbig
  clear hI hbig
  go_enter Tryd.func9, Tryd.ntmps9
  go_wp2
  go_loop [3] (fun i => ∃ k : Nat, k ≤ zs.length ∧ i = .int .i64 (k : Int) ∧ (zs.take k).all fewL = true) (fun i => zs.length - (intOf i).toNat)
  case atStart => exact ⟨0, Nat.zero_le _, rfl, rfl⟩
  case round =>
    obtain ⟨k, hk, rfl, hP⟩ := hrel
    by_cases hlt : k < zs.length
    · obtain ⟨x, hx⟩ : ∃ x, zs[k]? = some x := ⟨_, List.getElem?_eq_getElem hlt⟩
      obtain ⟨hn, he⟩ := List.getElem?_eq_some_iff.1 hx
      have hsn : (zs.take (k + 1)).all fewL = fewL x := by rw [List.take_succ_eq_append_getElem hn, he, List.all_append, hP]; simp
      obtain ⟨b1, b2⟩ := HB.out x (List.mem_of_getElem? hx)
      have NO : Hid (fewL x = false → zs.all fewL = false) := fun h => by rw [List.all_eq_false]; exact ⟨x, List.mem_of_getElem? hx, by rw [h]; simp⟩
      rcases HI.out with ⟨_, rfl⟩ | ⟨b, off, c, e, hb, hc⟩
      · simp at hlt
      obtain ⟨rfl, rfl⟩ : a = some ⟨b, off, none⟩ ∧ cap = c := by simpa using e
      obtain ⟨c0, c1⟩ := hc k x hx
      obtain ⟨xn, xv⟩ := x
      dsimp only at b1 b2 c0 c1
      have h0 : (0 : Int) ≤ (k : Int) := by omega
      have h1 : (k : Int) < (zs.length : Int) := by omega
      have FL : Hid (fewL (xn, xv) = (decide (xn.length ≤ 100) && decide (xv.length ≤ 200))) := rfl
      have SN := Lib.hid hsn
      clear e hc hx hP he hsn
      by_cases q1 : xn.length ≤ 100
      · have p1 : ¬ (100 : Int) < (xn.length : Int) := by omega
        by_cases q2 : xv.length ≤ 200
        · have p2 : ¬ (200 : Int) < (xv.length : Int) := by omega
          go_wp2
          go_round
          case rel => exact ⟨k + 1, by omega, by go_num, by rw [SN.out, FL.out, decide_eq_true q1, decide_eq_true q2]; rfl⟩
          case measure => simp [intOf]; omega
        · have p2 : (200 : Int) < (xv.length : Int) := by omega
          go_wp2
          go_ret
          exact ⟨by rw [HR.out, NO.out (by rw [FL.out, decide_eq_false q2, Bool.and_false])]; rfl, rfl⟩
      · have p1 : (100 : Int) < (xn.length : Int) := by omega
        go_wp2
        go_ret
        exact ⟨by rw [HR.out, NO.out (by rw [FL.out, decide_eq_false q1]; rfl)]; rfl, rfl⟩
    · obtain rfl : k = zs.length := by omega
      rw [List.take_length] at hP
      have PP := Lib.hid hP
      clear hP
      go_wp2
      go_ret
      exact ⟨by rw [HR.out, PP.out]; rfl, rfl⟩
/-- what is few lifts to short labels -/
theorem few_short {zs : List Lab} (h : fewR zs = true) : ∃ ss : List SLab, ss.map (·.1) = zs ∧ ss.length ≤ 30 := by
  unfold fewR at h
  rw [Bool.and_eq_true, decide_eq_true_eq, List.all_eq_true] at h
  obtain ⟨hl, ha⟩ := h
  have hs : ∀ x ∈ zs, Short x := fun x hx => by
    have := ha x hx
    unfold fewL at this
    rw [Bool.and_eq_true, decide_eq_true_eq, decide_eq_true_eq] at this
    unfold Short; omega
  refine ⟨zs.attach.map fun x => ⟨x.1, hs x.1 x.2⟩, ?_, ?_⟩
  · rw [List.map_map]
    show zs.attach.map (fun x => x.1) = zs
    exact List.attach_map_subtype_val zs
  · rw [List.length_map, List.length_attach]; exact hl
end Go.Proofs.YtmcmgmpgmbljiaaDoor
