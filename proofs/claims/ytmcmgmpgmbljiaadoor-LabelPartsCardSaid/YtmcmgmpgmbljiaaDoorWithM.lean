/- One label set, and taken away again: mathematics. -/
import Derived.Test.YtmcmgmpgmbljiaaDoorSplitM
namespace Go.Proofs.YtmcmgmpgmbljiaaDoor
open Go Go.Proofs Go.RowKit Go.Shelf
set_option maxRecDepth 100000
theorem bl_nil {n : List UInt8} (h : n ≠ []) : Op.bytesLess [] n = true := by
  cases n with
  | nil => exact absurd rfl h
  | cons _ _ => rfl
def GoodL (z : SLab) : Prop := nameR z.1.1 = true ∧ valueR z.1.2 = true
theorem rise_chk : ∀ (zs : List SLab) (l : List UInt8), (∀ z ∈ zs, Op.bytesLess l z.1.1 = true) → Rise zs → (∀ z ∈ zs, GoodL z) → chk l zs = 0 := by
  intro zs
  induction zs with
  | nil => intro l _ _ _; rfl
  | cons y t ih =>
    intro l h1 h2 h3
    obtain ⟨g1, g2⟩ := h3 y List.mem_cons_self
    obtain ⟨r1, r2⟩ := List.pairwise_cons.1 h2
    rw [chk_cons, if_neg (by rw [g1]; simp), bl_tot, h1 y List.mem_cons_self, if_neg (by simp), if_neg (by rw [g2]; simp)]
    exact ih _ r1 r2 (fun z hz => h3 z (List.mem_cons_of_mem _ hz))
theorem check_ok {zs : List SLab} (hl : zs.length ≤ 16) (h : Rise zs) (g : ∀ z ∈ zs, GoodL z) : checkR zs = 0 := by
  unfold checkR
  rw [if_neg (by omega)]
  exact rise_chk zs [] (fun z hz => bl_nil (name_ok (g z hz).1).1) h g
theorem get_mem : ∀ (zs : List SLab), Rise zs → ∀ z ∈ zs, getR z.1.1 zs = z.1.2 := by
  intro zs
  induction zs with
  | nil => intro _ z hz; cases hz
  | cons y t ih =>
    intro h z hz
    obtain ⟨r1, r2⟩ := List.pairwise_cons.1 h
    show (if y.1.1 = z.1.1 then y.1.2 else getR z.1.1 t) = _
    rcases List.mem_cons.1 hz with rfl | hz
    · rw [if_pos rfl]
    · rw [if_neg (rise_ne (r1 z hz))]
      exact ih r2 z hz
/-- where a name belongs in a rising list that has it not -/
theorem rise_split (n : List UInt8) : ∀ zs : List SLab, Rise zs → (∀ z ∈ zs, z.1.1 ≠ n) → ∃ A C, zs = A ++ C ∧ (∀ z ∈ A, Op.bytesLess z.1.1 n = true) ∧ (∀ z ∈ C, Op.bytesLess n z.1.1 = true) := by
  intro zs
  induction zs with
  | nil => intro _ _; exact ⟨[], [], rfl, fun z hz => absurd hz (by simp), fun z hz => absurd hz (by simp)⟩
  | cons y t ih =>
    intro h hn
    obtain ⟨r1, r2⟩ := List.pairwise_cons.1 h
    cases hb : Op.bytesLess y.1.1 n
    · have hyn : Op.bytesLess n y.1.1 = true := by
        have := bl_tot y.1.1 n
        have hne : (y.1.1 == n) = false := by rw [beq_eq_false_iff_ne]; exact hn y List.mem_cons_self
        rw [hb, hne] at this
        simpa using this.symm
      refine ⟨[], y :: t, rfl, fun z hz => absurd hz (by simp), fun z hz => ?_⟩
      rcases List.mem_cons.1 hz with rfl | hz
      · exact hyn
      · exact bl_trans _ _ _ hyn (r1 z hz)
    · obtain ⟨A, C, rfl, hA, hC⟩ := ih r2 (fun z hz => hn z (List.mem_cons_of_mem _ hz))
      refine ⟨y :: A, C, rfl, fun z hz => ?_, hC⟩
      rcases List.mem_cons.1 hz with rfl | hz
      · exact hb
      · exact hA z hz
theorem oth_mem {zs : List SLab} {n : List UInt8} {z : SLab} : z ∈ othersR zs n ↔ z ∈ zs ∧ z.1.1 ≠ n := by
  unfold othersR
  rw [List.mem_filter]
  unfold keepB
  constructor
  · rintro ⟨h1, h2⟩
    refine ⟨h1, fun e => ?_⟩
    rw [e] at h2; simp at h2
  · rintro ⟨h1, h2⟩
    exact ⟨h1, by simp [h2]⟩
theorem oth_self {zs : List SLab} {n : List UInt8} (h : ∀ z ∈ zs, z.1.1 ≠ n) : othersR zs n = zs := by
  unfold othersR
  rw [List.filter_eq_self]
  intro z hz
  unfold keepB
  simp [h z hz]
theorem oth_app (A B : List SLab) (n : List UInt8) : othersR (A ++ B) n = othersR A n ++ othersR B n := by unfold othersR; rw [List.filter_append]
theorem oth_cons_eq (x : SLab) (B : List SLab) : othersR (x :: B) x.1.1 = othersR B x.1.1 := by
  unfold othersR
  rw [List.filter_cons, if_neg (by unfold keepB; simp)]
/-- all that the law of one label asks -/
structure WithFacts (ss : List SLab) (n v : List UInt8) (hs : Short (n, v)) (p : Nat) (xa : List SLab) : Prop where
  p1 : p ≤ (othersR ss n).length
  p2 : ∀ k x, (othersR ss n)[k]? = some x → (Op.bytesLess x.1.1 n = true ↔ k < p)
  p3 : withR ss n v hs p = xa
  oth : othersR xa n = othersR ss n
  again : withR xa n v hs p = xa
  getA : getR n xa = v
  getB : getR n (othersR ss n) = []
  chkA : checkR xa = 0
  chkB : checkR (othersR ss n) = 0
  all : ∀ z ∈ ss, z.1.1 ≠ n → getR z.1.1 xa = z.1.2 ∧ getR z.1.1 (othersR ss n) = z.1.2
  len : xa.length = (othersR ss n).length + 1
  fin : ((getR n ss == []) == ((xa.length : Int) == (ss.length : Int) + 1)) = true
theorem with_facts (ss : List SLab) (hc : checkR ss = 0) (hl : ss.length < 16) (n v : List UInt8) (hs : Short (n, v)) (hn : nameR n = true) (hv : valueR v = true) : ∃ p xa, WithFacts ss n v hs p xa := by
  have hr := (chk_rise ss [] (check_zero hc).2).2
  have hg := chk_names ss [] (check_zero hc).2
  have hor : Rise (othersR ss n) := hr.filter _
  have hvn : v ≠ [] := by rintro rfl; cases hv
  obtain ⟨A, C, hAC, hA, hC⟩ := rise_split n (othersR ss n) hor (fun z hz => (oth_mem.1 hz).2)
  have hog : ∀ z ∈ othersR ss n, GoodL z := fun z hz => hg z (oth_mem.1 hz).1
  have hol : (othersR ss n).length ≤ ss.length := List.length_filter_le _ _
  have hgx : GoodL ⟨(n, v), hs⟩ := ⟨hn, hv⟩
  have hxr : Rise (A ++ (⟨(n, v), hs⟩ : SLab) :: C) := by
    rw [hAC] at hor
    obtain ⟨q1, q2, q3⟩ := List.pairwise_append.1 hor
    refine List.pairwise_append.2 ⟨q1, List.pairwise_cons.2 ⟨fun z hz => hC z hz, q2⟩, fun a ha b hb => ?_⟩
    rcases List.mem_cons.1 hb with rfl | hb
    · exact hA a ha
    · exact q3 a ha b hb
  have hon : ∀ z ∈ othersR ss n, z.1.1 ≠ n := fun z hz => (oth_mem.1 hz).2
  have hoth : othersR (A ++ (⟨(n, v), hs⟩ : SLab) :: C) n = othersR ss n := by
    rw [oth_app]
    have e := oth_cons_eq (⟨(n, v), hs⟩ : SLab) C
    dsimp only at e
    rw [e, ← oth_app, ← hAC, oth_self hon]
  have hw : ∀ zs : List SLab, othersR zs n = othersR ss n → withR zs n v hs A.length = A ++ (⟨(n, v), hs⟩ : SLab) :: C := fun zs e => by
    unfold withR
    rw [if_neg hvn, e, hAC, List.take_left, List.drop_left]
  have hlen : (A ++ (⟨(n, v), hs⟩ : SLab) :: C).length = (othersR ss n).length + 1 := by
    rw [hAC]; simp only [List.length_append, List.length_cons]; omega
  refine ⟨A.length, A ++ (⟨(n, v), hs⟩ : SLab) :: C, ?_, fun k x hx => ?_, hw ss rfl, hoth, hw _ hoth, ?_, get_none n _ hon, ?_, check_ok (by omega) hor hog, fun z hz hne => ⟨?_, get_mem _ hor z (oth_mem.2 ⟨hz, hne⟩)⟩, hlen, ?_⟩
  · rw [hAC]; simp
  · rw [hAC, List.getElem?_append] at hx
    split at hx
    · rename_i hk
      exact ⟨fun _ => hk, fun _ => hA x (List.mem_of_getElem? hx)⟩
    · rename_i hk
      have := bl_asym (hC x (List.mem_of_getElem? hx))
      exact ⟨fun h => absurd h (by rw [this]; simp), fun h => absurd h hk⟩
  · exact get_mem _ hxr ⟨(n, v), hs⟩ (by simp)
  · refine check_ok (by rw [hlen]; omega) hxr fun z hz => ?_
    rcases List.mem_append.1 hz with h | h
    · exact hog z (by rw [hAC]; exact List.mem_append.2 (.inl h))
    · rcases List.mem_cons.1 h with rfl | h
      · exact hgx
      · exact hog z (by rw [hAC]; exact List.mem_append.2 (.inr h))
  · refine get_mem _ hxr z ?_
    have : z ∈ A ++ C := by rw [← hAC]; exact oth_mem.2 ⟨hz, hne⟩
    rcases List.mem_append.1 this with h | h
    · exact List.mem_append.2 (.inl h)
    · exact List.mem_append.2 (.inr (List.mem_cons_of_mem _ h))
  · rw [hlen]
    by_cases hin : ∃ z ∈ ss, z.1.1 = n
    · obtain ⟨z, hz, rfl⟩ := hin
      have hge := get_mem ss hr z hz
      obtain ⟨P, Q, rfl⟩ := List.append_of_mem hz
      have hP : ∀ y ∈ P, y.1.1 ≠ z.1.1 := fun y hy => rise_ne ((List.pairwise_append.1 hr).2.2 y hy z List.mem_cons_self)
      have hQ : ∀ y ∈ Q, y.1.1 ≠ z.1.1 := fun y hy e => rise_ne ((List.pairwise_cons.1 (List.pairwise_append.1 hr).2.1).1 y hy) e.symm
      have ho : othersR (P ++ z :: Q) z.1.1 = P ++ Q := by rw [oth_app, oth_cons_eq, oth_self hP, oth_self hQ]
      have hzv : z.1.2 ≠ [] := by
        intro e
        have := (hg z hz).2
        rw [e] at this; cases this
      rw [hge, ho]
      have h1 : (z.1.2 == []) = false := by rw [beq_eq_false_iff_ne]; exact hzv
      have h2 : ((((P ++ Q).length + 1 : Nat) : Int) == ((P ++ z :: Q).length : Int) + 1) = false := by
        rw [beq_eq_false_iff_ne]; simp only [List.length_append, List.length_cons]; omega
      rw [h1, h2]; rfl
    · have hno : ∀ z ∈ ss, z.1.1 ≠ n := fun z hz e => hin ⟨z, hz, e⟩
      rw [get_none n ss hno, oth_self hno]
      have h2 : (((ss.length + 1 : Nat) : Int) == (ss.length : Int) + 1) = true := by rw [beq_iff_eq]; omega
      rw [h2]; rfl
end Go.Proofs.YtmcmgmpgmbljiaaDoor
