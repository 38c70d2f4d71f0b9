/- hist: what values come to in buckets: mathematics alone. -/
import Derived.Test.YtohmliockehbkaaHr
namespace Go.Proofs.Ytohmliockehbkaa
open Go Go.Proofs
/-- one value more -/
def putR (h : List Int) (v : Int) : List Int := h.set (bucketR v) (nth h (bucketR v) + 1)
def histR (l : List Int) : List Int := l.foldl putR zs65
theorem histR_snoc (l : List Int) (v : Int) : histR (l ++ [v]) = putR (histR l) v := by simp [histR]
theorem putR_len (h : List Int) (v : Int) : (putR h v).length = h.length := by simp [putR]
theorem histR_len (l : List Int) : (histR l).length = 65 := by
  have : ∀ (l h : List Int), (l.foldl putR h).length = h.length := fun l => by
    induction l with
    | nil => intro h; rfl
    | cons a l ih => intro h; rw [List.foldl_cons, ih, putR_len]
  unfold histR
  rw [this, zs65_len]
theorem nth_set (h : List Int) (i j : Nat) (x : Int) (hi : i < h.length) : nth (h.set i x) j = if i = j then x else nth h j := by
  unfold nth
  simp only [List.getD_eq_getElem?_getD, List.getElem?_set]
  by_cases e : i = j
  · subst e; rw [if_pos rfl, if_pos hi, if_pos rfl]; rfl
  · rw [if_neg e, if_neg e]
theorem nth_zs (i : Nat) : nth zs65 i = 0 := by
  unfold nth zs65
  rw [List.getD_eq_getElem?_getD, List.getElem?_replicate]
  split <;> rfl
def eqB (l : List Int) (i : Nat) : Int := (l.countP (fun x => decide (bucketR x = i)) : Nat)
def cntB (l : List Int) (k : Nat) : Int := (l.countP (fun x => decide (bucketR x < k)) : Nat)
/-- each an int64 -/
def All64 (l : List Int) : Prop := ∀ x ∈ l, I64 x
theorem hist_at : ∀ (l h : List Int), h.length = 65 → All64 l → ∀ i, nth (l.foldl putR h) i = nth h i + eqB l i
  | [], h, _, _, i => by simp [eqB]
  | v :: l, h, hl, hI, i => by
    have hb := bucketR_le v (hI v (by simp)).2
    rw [List.foldl_cons, hist_at l (putR h v) (by rw [putR_len]; exact hl) (fun x hx => hI x (by simp [hx]))]
    unfold putR
    rw [nth_set _ _ _ _ (by omega)]
    unfold eqB
    rw [List.countP_cons]
    by_cases e : bucketR v = i
    · subst e; simp; omega
    · simp [e]
theorem histR_at {l : List Int} (hI : All64 l) (i : Nat) : nth (histR l) i = eqB l i := by
  unfold histR
  rw [hist_at l zs65 zs65_len hI, nth_zs]; omega
theorem eqB_bounds (l : List Int) (i : Nat) : 0 ≤ eqB l i ∧ eqB l i ≤ (l.length : Int) := by
  have := List.countP_le_length (p := fun x => decide (bucketR x = i)) (l := l)
  unfold eqB
  omega
theorem histR_small {l : List Int} (hI : All64 l) (hl : l.length ≤ 1125899906842624) : Small (histR l) := by
  have key : ∀ x ∈ histR l, 0 ≤ x ∧ x ≤ 1125899906842624 := fun x hx => by
    obtain ⟨i, hi, rfl⟩ := List.getElem_of_mem hx
    have h1 := histR_at hI i
    have h2 := nth_some (h := histR l) hi
    rw [List.getElem?_eq_getElem hi] at h2
    have h3 := Option.some.inj h2
    have := eqB_bounds l i
    rw [h3, h1]; omega
  exact ⟨histR_len l, fun x hx => (key x hx).1, fun x hx => (key x hx).2⟩
theorem cntB_succ (l : List Int) (k : Nat) : cntB l (k + 1) = cntB l k + eqB l k := by
  unfold cntB eqB
  induction l with
  | nil => rfl
  | cons v l ih =>
    simp only [List.countP_cons]
    by_cases h1 : bucketR v < k
    · have h2 : bucketR v < k + 1 := by omega
      have h3 : ¬ bucketR v = k := by omega
      simp only [h1, h2, h3, decide_true, decide_false, if_true, if_false, Bool.false_eq_true]
      omega
    · by_cases h2 : bucketR v = k
      · have h3 : bucketR v < k + 1 := by omega
        simp only [h1, h2, h3, decide_true, decide_false, if_true, if_false, Bool.false_eq_true]
        have : k < k + 1 := by omega
        simp only [this, decide_true, if_true, Nat.lt_irrefl, decide_false, if_false, Bool.false_eq_true]
        omega
      · have h3 : ¬ bucketR v < k + 1 := by omega
        simp only [h1, h2, h3, decide_true, decide_false, if_true, if_false, Bool.false_eq_true]
        omega
theorem sum_cnt {l : List Int} (hI : All64 l) : ∀ k, k ≤ 65 → sumB (histR l) (allI.take k) = cntB l k := by
  intro k
  induction k with
  | zero =>
    intro _
    show (0 : Int) = cntB l 0
    unfold cntB
    rw [List.countP_eq_zero.2 (fun x _ => by simp)]; rfl
  | succ k ih =>
    intro hk
    rw [take_succ (show k < 65 by omega), sumB_snoc, ih (by omega), cntB_succ, histR_at hI]
theorem cnt_all {l : List Int} (hI : All64 l) {k : Nat} (hk : 64 ≤ k) : cntB l k = (l.length : Int) := by
  unfold cntB
  rw [List.countP_eq_length.2 (fun x hx => by have := bucketR_le x (hI x hx).2; simp; omega)]
theorem count_hist {l : List Int} (hI : All64 l) : countR (histR l) = (l.length : Int) := by
  have := sum_cnt hI 65 (by omega)
  rw [List.take_of_length_le (by rw [allI_len]; omega)] at this
  unfold countR
  rw [this, cnt_all hI (by omega)]
theorem cntB_bounds (l : List Int) (k : Nat) : 0 ≤ cntB l k ∧ cntB l k ≤ (l.length : Int) := by
  have := List.countP_le_length (p := fun x => decide (bucketR x < k)) (l := l)
  unfold cntB
  omega
theorem cntB_snoc (l : List Int) (v : Int) (k : Nat) : cntB (l ++ [v]) k = cntB l k + if bucketR v < k then 1 else 0 := by
  unfold cntB
  rw [List.countP_append]
  by_cases h : bucketR v < k <;> simp [h]
theorem nth_merge (h g : List Int) (hl : h.length = 65) : ∀ k, k ≤ 65 → ∀ j, nth (mergeL h g (allI.take k)) j = nth h j + if j < k then nth g j else 0 := by
  intro k
  induction k with
  | zero => intro _ j; simp [mergeL]
  | succ k ih =>
    intro hk j
    rw [take_succ (show k < 65 by omega), mergeL_snoc, nth_set _ _ _ _ (by rw [mergeL_len, hl]; omega), ih (by omega), ih (by omega)]
    dsimp only
    by_cases e : k = j
    · subst e
      rw [if_pos rfl, if_neg (by omega), if_pos (by omega)]; omega
    · rw [if_neg e]
      by_cases q : j < k
      · rw [if_pos q, if_pos (by omega)]
      · rw [if_neg q, if_neg (by omega)]
theorem merge_hist {a b : List Int} (ha : All64 a) (hb : All64 b) : mergeR (histR a) (histR b) = histR (a ++ b) := by
  have hab : All64 (a ++ b) := fun x hx => by rcases List.mem_append.1 hx with h | h; exact ha x h; exact hb x h
  have hm : (mergeR (histR a) (histR b)).length = 65 := by unfold mergeR; rw [mergeL_len, histR_len]
  apply List.ext_getElem?
  intro i
  by_cases hi : i < 65
  · rw [nth_some (by omega), nth_some (by rw [histR_len]; exact hi), histR_at hab]
    have := nth_merge (histR a) (histR b) (histR_len a) 65 (by omega) i
    rw [List.take_of_length_le (by rw [allI_len]; omega), if_pos hi, histR_at ha, histR_at hb] at this
    rw [show mergeR (histR a) (histR b) = mergeL (histR a) (histR b) allI from rfl, this]
    unfold eqB
    rw [List.countP_append]
    simp
  · rw [List.getElem?_eq_none (by omega), List.getElem?_eq_none (by rw [histR_len]; omega)]
theorem hist_turn {a b : List Int} (ha : All64 a) (hb : All64 b) : histR (b ++ a) = histR (a ++ b) := by
  have hab : All64 (a ++ b) := fun x hx => by rcases List.mem_append.1 hx with h | h; exact ha x h; exact hb x h
  have hba : All64 (b ++ a) := fun x hx => by rcases List.mem_append.1 hx with h | h; exact hb x h; exact ha x h
  apply List.ext_getElem?
  intro i
  by_cases hi : i < 65
  · rw [nth_some (by rw [histR_len]; exact hi), nth_some (by rw [histR_len]; exact hi), histR_at hab, histR_at hba]
    unfold eqB
    rw [List.countP_append, List.countP_append, Nat.add_comm]
  · rw [List.getElem?_eq_none (by rw [histR_len]; omega), List.getElem?_eq_none (by rw [histR_len]; omega)]
end Go.Proofs.Ytohmliockehbkaa
