/- The text of a set, and back: mathematics. -/
import Derived.Test.YtgldieboflmnhaaGreatDoorParse
import Derived.Test.YtgldieboflmnhaaGreatDoorHash
namespace Go.Proofs.YtgldieboflmnhaaGreatDoor
open Go Go.Proofs Go.RowKit Go.Shelf
set_option maxRecDepth 100000
theorem tE_esc (l : List UInt8) : ∀ (S t : List UInt8), tE S (escR l ++ 34 :: t) = some (S ++ l, t) := by
  induction l with
  | nil => intro S t; rw [show escR [] = [] from rfl, List.nil_append, tE_q _ _ _ rfl]; simp
  | cons c l ih =>
    intro S t
    have e : escR (c :: l) = escC c ++ escR l := by unfold escR; rw [List.flatMap_cons]
    rw [e]
    unfold escC
    by_cases h : c.toNat = 34 ∨ c.toNat = 92
    · rw [if_pos h]
      show tE S (92 :: c :: (escR l ++ 34 :: t)) = _
      rw [tE_b1 _ _ _ _ rfl h, ih]
      simp
    · rw [if_neg h]
      show tE S (c :: (escR l ++ 34 :: t)) = _
      rw [tE_c _ _ _ (fun e => h (.inl e)) (fun e => h (.inr e)), ih]
      simp
theorem cut_at (n t : List UInt8) (h : ∀ c ∈ n, c ≠ 61) : cutR (n ++ 61 :: t) = (n, t, true) := by
  have h1 : (n ++ 61 :: t).takeWhile (· != 61) = n := by
    induction n with
    | nil => rfl
    | cons a u ih =>
      have ha : (a != 61) = true := by rw [bne_iff_ne]; exact h a List.mem_cons_self
      rw [List.cons_append, List.takeWhile_cons, if_pos ha, ih (fun c hc => h c (List.mem_cons_of_mem _ hc))]
  have h2 : (n ++ 61 :: t).dropWhile (· != 61) = 61 :: t := by
    clear h1
    induction n with
    | nil => rfl
    | cons a u ih =>
      have ha : (a != 61) = true := by rw [bne_iff_ne]; exact h a List.mem_cons_self
      rw [List.cons_append, List.dropWhile_cons, if_pos ha, ih (fun c hc => h c (List.mem_cons_of_mem _ hc))]
  unfold cutR
  rw [if_pos (by simp), h1, h2]
  rfl
theorem hp_app (a t : List UInt8) : Lib.hasPrefix (a ++ t) a = true := by unfold Lib.hasPrefix; rw [List.isPrefixOf_iff_prefix]; exact ⟨t, rfl⟩
theorem tp_app (a t : List UInt8) : Lib.trimPrefix (a ++ t) a = t := by unfold Lib.trimPrefix; rw [if_pos (hp_app a t), List.drop_left]
theorem take_lab (a : List UInt8) (x : Lab) (t : List UInt8) (h : ∀ c ∈ x.1, c ≠ 61) : takeL a (a ++ (labT x ++ t)) = some (x, t) := by
  have e : labT x ++ t = x.1 ++ 61 :: ([34] ++ (escR x.2 ++ 34 :: t)) := by unfold labT; simp
  unfold takeL
  rw [tp_app, e, cut_at _ _ h]
  dsimp only
  rw [tp_app, tE_esc]
  dsimp only
  rw [if_pos ⟨hp_app _ _, hp_app _ _⟩]
  rfl
/-- what stands behind a label -/
def restT : List SLab → List UInt8
  | [] => [125]
  | x :: t => [44] ++ (labT x.1 ++ restT t)
theorem run_rest (t : List SLab) : ∀ s, (t.foldl lStep (s, [44])).1 ++ [125] = s ++ restT t := by
  induction t with
  | nil => intro s; rfl
  | cons x t ih =>
    intro s
    rw [List.foldl_cons]
    show (t.foldl lStep (s ++ [44] ++ labT x.1, [44])).1 ++ [125] = _
    rw [ih]
    show _ = s ++ ([44] ++ (labT x.1 ++ restT t))
    simp
theorem text_cons (x : SLab) (t : List SLab) : textL (x :: t) = [123] ++ (labT x.1 ++ restT t) := by
  unfold textL runS
  rw [List.foldl_cons]
  show (t.foldl lStep ([123] ++ [] ++ labT x.1, [44])).1 ++ [125] = _
  rw [run_rest]
  simp
/-- may these be names -/
def NamesOk (zs : List SLab) : Prop := ∀ x ∈ zs, x.1.1 ≠ [] ∧ ∀ c ∈ x.1.1, c ≠ 61 ∧ c ≠ 125
theorem wr_text (t : List SLab) : ∀ (a : List UInt8) (x : SLab), NamesOk (x :: t) → Wr a (a ++ (labT x.1 ++ restT t)) ((x, true) :: t.map fun y => (y, true)) := by
  induction t with
  | nil =>
    intro a x h
    unfold Wr
    rw [take_lab _ _ _ (fun c hc => ((h x List.mem_cons_self).2 c hc).1)]
    dsimp only
    refine ⟨rfl, rfl, ?_⟩
    rw [if_pos (show restT [] = [125] from rfl)]
    rfl
  | cons y t ih =>
    intro a x h
    unfold Wr
    rw [take_lab _ _ _ (fun c hc => ((h x List.mem_cons_self).2 c hc).1)]
    dsimp only
    refine ⟨rfl, rfl, ?_⟩
    rw [if_neg (by show ¬ ([44] ++ (labT y.1 ++ restT t)) = [125]; intro e; have := congrArg List.head? e; simp at this)]
    exact ih [44] y (fun z hz => h z (List.mem_cons_of_mem _ hz))
theorem wrS_text (zs : List SLab) (h : NamesOk zs) : WrS (textL zs) (zs.map fun y => (y, true)) := by
  unfold WrS
  cases zs with
  | nil => rw [if_pos (by decide), if_pos (by decide)]; rfl
  | cons x t =>
    rw [text_cons]
    obtain ⟨h1, h2⟩ := h x List.mem_cons_self
    rw [if_neg]
    · exact wr_text t [123] x h
    · cases hx : x.1.1 with
      | nil => exact absurd hx h1
      | cons c u =>
        have hc := (h2 c (by rw [hx]; exact List.mem_cons_self)).2
        unfold Lib.hasPrefix labT
        rw [hx]
        have hc' : (125 == c) = false := by rw [beq_eq_false_iff_ne]; exact fun e => hc e.symm
        simp [List.isPrefixOf, hc']
theorem name_ok {n : List UInt8} (h : nameR n = true) : n ≠ [] ∧ ∀ c ∈ n, c ≠ 61 ∧ c ≠ 125 := by
  cases n with
  | nil => cases h
  | cons a t =>
    refine ⟨by simp, fun c hc => ?_⟩
    unfold nameR at h
    rw [Bool.and_eq_true] at h
    have hw := List.all_eq_true.1 h.2 c hc
    constructor
    · rintro rfl; revert hw; decide
    · rintro rfl; revert hw; decide
theorem chk_names : ∀ (zs : List SLab) (l : List UInt8), chk l zs = 0 → ∀ x ∈ zs, nameR x.1.1 = true ∧ valueR x.1.2 = true := by
  intro zs
  induction zs with
  | nil => intro l _ x hx; cases hx
  | cons y t ih =>
    intro l h x hx
    rw [chk_cons] at h
    by_cases h1 : nameR y.1.1 = false
    · rw [if_pos h1] at h; cases h
    · rw [if_neg h1] at h
      by_cases h2 : (Op.bytesLess y.1.1 l || y.1.1 == l) = true
      · rw [if_pos h2] at h; cases h
      · rw [if_neg h2] at h
        by_cases h3 : valueR y.1.2 = false
        · rw [if_pos h3] at h; cases h
        · rw [if_neg h3] at h
          rcases List.mem_cons.1 hx with rfl | hx
          · exact ⟨by simpa using h1, by simpa using h3⟩
          · exact ih _ h x hx
theorem check_zero {zs : List SLab} (h : checkR zs = 0) : zs.length ≤ 16 ∧ chk [] zs = 0 := by
  unfold checkR at h
  by_cases h1 : 16 < zs.length
  · rw [if_pos h1] at h; cases h
  · rw [if_neg h1] at h; exact ⟨by omega, h⟩
theorem names_ok {zs : List SLab} (h : checkR zs = 0) : NamesOk zs := fun x hx => name_ok (chk_names zs [] (check_zero h).2 x hx).1
theorem text_len (zs : List SLab) (h : zs.length ≤ 100) : (textL zs).length ≤ 100000 := by
  have := (runS_len zs).1
  unfold textL
  rw [List.length_append]
  simp only [List.length_cons, List.length_nil]
  omega
/-- Parse of a good set's text -/
theorem parse_text (zs : List SLab) (h : checkR zs = 0) (w : World) :
    Calls Tryz.prog 29 #[.string ⟨(textL zs).toArray⟩] w fun e w' => ∃ v, e = .returned (.tuple #[v, .int .i64 0]) ∧ Labs w'.heap.size w' v zs ∧ Below w.heap.size w w' := by
  have hl := (check_zero h).1
  have hok : allOk (zs.map fun y => (y, true)) := fun z hz => by obtain ⟨y, _, rfl⟩ := List.mem_map.1 hz; rfl
  have hmap : (zs.map fun y => (y, true)).map (·.1) = zs := by rw [List.map_map]; exact List.map_id zs
  have hpc : parseC (zs.map fun y => (y, true)) = 0 := by unfold parseC; rw [if_pos hok, hmap]; exact h
  refine (parse_any (textL zs) (text_len zs (by omega)) _ (wrS_text zs (names_ok h)) (by rw [List.length_map]; omega) w).mono ?_
  rintro e w' ⟨v, rfl, h1, _, h3⟩
  refine ⟨v, by rw [hpc], ?_, h3⟩
  have := h1 hpc
  rwa [hmap] at this
end Go.Proofs.YtgldieboflmnhaaGreatDoor
