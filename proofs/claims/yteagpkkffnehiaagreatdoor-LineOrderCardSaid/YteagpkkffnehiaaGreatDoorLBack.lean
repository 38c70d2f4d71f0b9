/- A line's text read back: mathematics. -/
import Derived.Test.YteagpkkffnehiaaGreatDoorPNums
import Derived.Lib.LastIndexByte
namespace Go.Proofs.YteagpkkffnehiaaGreatDoor
open Go Go.Proofs Go.RowKit Go.Shelf
set_option maxRecDepth 100000
theorem dB_dig : ∀ c : UInt8, dB c = true → digS.contains c = true ∧ c ≠ 125 := by
  intro c h
  have h1 := (dB_iff c).1 h
  have key : ∀ n : Nat, n < 256 → 48 ≤ n → n ≤ 57 → digS.contains (UInt8.ofNat n) = true ∧ UInt8.ofNat n ≠ 125 := by decide
  have := key c.toNat (by omega) h1.1 h1.2
  rwa [UInt8.ofNat_toNat] at this
theorem itoa_dig (x : Int) : (Lib.itoa x).all (fun c => digS.contains c) = true ∧ ∀ c ∈ Lib.itoa x, c ≠ 125 := by
  have hd : ∀ n : Nat, (Lib.decDigits n).all (fun c => digS.contains c) = true ∧ ∀ c ∈ Lib.decDigits n, c ≠ 125 := by
    intro n
    obtain ⟨c, t, e, a, _⟩ := dec_form n
    rw [e]
    rw [List.all_eq_true] at a
    exact ⟨List.all_eq_true.2 fun x hx => (dB_dig x (a x hx)).1, fun x hx => (dB_dig x (a x hx)).2⟩
  unfold Lib.itoa
  by_cases hx : x < 0
  · rw [if_pos hx]
    refine ⟨?_, ?_⟩
    · rw [List.all_cons, (hd _).1]; rfl
    · intro c hc
      rcases List.mem_cons.1 hc with rfl | h
      · decide
      · exact (hd _).2 c h
  · rw [if_neg hx]; exact hd _
theorem tw_app (p : UInt8 → Bool) (a b : List UInt8) (ha : a.all p = true) (hb : b = [] ∨ ∃ c t, b = c :: t ∧ p c = false) : (a ++ b).dropWhile p = b := by
  induction a with
  | nil =>
    rcases hb with rfl | ⟨c, t, rfl, h⟩
    · rfl
    · rw [List.nil_append, List.dropWhile_cons, h]; rfl
  | cons x t ih =>
    rw [List.all_cons, Bool.and_eq_true] at ha
    rw [List.cons_append, List.dropWhile_cons, if_pos ha.1]
    exact ih ha.2
def Fresh6 (R : List UInt8) : Prop := R = [] ∨ ∃ c t, R = c :: t ∧ digS.contains c = false
theorem behind_own (k : Fin 4) (Y : List UInt8) : behindR k (markL k ++ Y) = Y ∧ Lib.hasPrefix (markL k ++ Y) (markL k) = true := by
  have h : Lib.hasPrefix (markL k ++ Y) (markL k) = true := by
    unfold Lib.hasPrefix; rw [List.isPrefixOf_iff_prefix]; exact List.prefix_append _ _
  refine ⟨?_, h⟩
  unfold behindR Lib.trimPrefix
  rw [if_pos h, List.drop_left]
theorem step_own (k : Fin 4) (x : Int) (hx : I64 x) (R : List UInt8) (hR : Fresh6 R) :
    okR k (markL k ++ (Lib.itoa x ++ R)) = true ∧ restR k (markL k ++ (Lib.itoa x ++ R)) = R ∧ numOf (numR k (markL k ++ (Lib.itoa x ++ R))) = x := by
  obtain ⟨h1, h2⟩ := behind_own k (Lib.itoa x ++ R)
  have h3 : restR k (markL k ++ (Lib.itoa x ++ R)) = R := by
    unfold restR; rw [h1]; unfold Lib.trimLeftS
    exact tw_app _ _ _ (itoa_dig x).1 hR
  have h4 : numR k (markL k ++ (Lib.itoa x ++ R)) = Lib.itoa x := by
    unfold numR
    rw [h3, h1, List.length_append, Nat.add_sub_cancel, List.take_left]
  have h5 : numOf (Lib.itoa x) = x := numOf_itoa x hx.1 hx.2
  refine ⟨?_, h3, ?_⟩
  · unfold okR
    rw [h2, h4, h5]; simp
  · rw [h4, h5]
/-- what stands behind the labels -/
def tailR (va tm sr sq : Int) : List UInt8 := markL 0 ++ (Lib.itoa va ++ (markL 1 ++ (Lib.itoa tm ++ (markL 2 ++ (Lib.itoa sr ++ (markL 3 ++ (Lib.itoa sq ++ [])))))))
theorem lineR_tail (zs : List SLab) (va tm sr sq : Int) : lineR zs va tm sr sq = textL zs ++ tailR va tm sr sq := by
  unfold lineR lineRun tailR
  simp only [List.foldl_cons, List.foldl_nil, List.append_assoc, List.append_nil]
  rfl
theorem fresh_mark (k : Fin 4) (Y : List UInt8) : Fresh6 (markL k ++ Y) := by
  match k with
  | 0 => exact .inr ⟨_, _, rfl, by decide⟩
  | 1 => exact .inr ⟨_, _, rfl, by decide⟩
  | 2 => exact .inr ⟨_, _, rfl, by decide⟩
  | 3 => exact .inr ⟨_, _, rfl, by decide⟩
theorem tail_run (va tm sr sq : Int) (k0 : I64 va) (k1 : I64 tm) (k2 : I64 sr) (k3 : I64 sq) :
    numsOk (tailR va tm sr sq) = true ∧ numsR (tailR va tm sr sq) = numAt va tm sr sq := by
  obtain ⟨a0, b0, c0⟩ := step_own 0 va k0 _ (fresh_mark 1 (Lib.itoa tm ++ (markL 2 ++ (Lib.itoa sr ++ (markL 3 ++ (Lib.itoa sq ++ []))))))
  obtain ⟨a1, b1, c1⟩ := step_own 1 tm k1 _ (fresh_mark 2 (Lib.itoa sr ++ (markL 3 ++ (Lib.itoa sq ++ []))))
  obtain ⟨a2, b2, c2⟩ := step_own 2 sr k2 _ (fresh_mark 3 (Lib.itoa sq ++ []))
  obtain ⟨a3, b3, c3⟩ := step_own 3 sq k3 [] (.inl rfl)
  have hall : allR (tailR va tm sr sq) [0, 1, 2, 3] = true := by
    unfold allR tailR
    simp only [allRa, pStep, a0, b0, a1, b1, a2, b2, a3, Bool.and_true]
  have hrun : pRun (tailR va tm sr sq) [0, 1, 2, 3] = (setN (setN (setN (setN (fun _ => 0) 0 va) 1 tm) 2 sr) 3 sq, []) := by
    unfold pRun tailR
    simp only [List.foldl_cons, List.foldl_nil, pStep, b0, c0, b1, c1, b2, c2, b3, c3]
  refine ⟨?_, ?_⟩
  · unfold numsOk; rw [hall, hrun]; rfl
  · unfold numsR
    rw [if_pos hall, hrun]
    funext k
    match k with
    | 0 => rfl
    | 1 => rfl
    | 2 => rfl
    | 3 => rfl
theorem tail_no (va tm sr sq : Int) : ∀ c ∈ tailR va tm sr sq, c ≠ 125 := by
  have hm : ∀ (k : Fin 4), ∀ c ∈ markL k, c ≠ 125 := by decide
  intro c hc
  unfold tailR at hc
  simp only [List.mem_append, List.append_nil] at hc
  rcases hc with h | h | h | h | h | h | h | h
  · exact hm 0 c h
  · exact (itoa_dig va).2 c h
  · exact hm 1 c h
  · exact (itoa_dig tm).2 c h
  · exact hm 2 c h
  · exact (itoa_dig sr).2 c h
  · exact hm 3 c h
  · exact (itoa_dig sq).2 c h
/-- the last place of a byte: behind it there is none -/
theorem last_at (A R : List UInt8) (hR : ∀ c ∈ R, c ≠ 125) : Lib.lastIndexByte ⟨(A ++ [125] ++ R).toArray⟩ 125 = (A.length : Int) := by
  unfold Lib.lastIndexByte
  have hsz : (⟨(A ++ [125] ++ R).toArray⟩ : ByteArray).size = A.length + 1 + R.length := by
    show (A ++ [125] ++ R).toArray.size = _
    simp; omega
  have at_ : ∀ j, ∀ h : j < (A ++ [125] ++ R).length, (⟨(A ++ [125] ++ R).toArray⟩ : ByteArray).data[j]! = (A ++ [125] ++ R)[j] := by
    intro j h
    show (A ++ [125] ++ R).toArray[j]! = _
    rw [getElem!_pos _ j (by simpa using h)]
    simp
  have e0 : ((⟨(A ++ [125] ++ R).toArray⟩ : ByteArray).data[A.length]!).toNat = (125 : UInt8).toNat := by
    rw [at_ A.length (by simp)]
    simp
  rcases Lib.lastIdx_spec ⟨(A ++ [125] ++ R).toArray⟩ 125 (⟨(A ++ [125] ++ R).toArray⟩ : ByteArray).size with ⟨_, h⟩ | ⟨i, h1, h2, h3, h4⟩
  · exact absurd (by rw [e0]; first | done | rfl) (h A.length (by omega))
  · rw [h2]
    congr 1
    rcases Nat.lt_trichotomy i A.length with hlt | heq | hgt
    · exact absurd (by rw [e0]; first | done | rfl) (h4 A.length hlt (by omega))
    · exact heq
    · exfalso
      have hi : i < (A ++ [125] ++ R).length := by simp; omega
      rw [at_ i hi, List.getElem_append_right (by simp; omega)] at h3
      have hj : i - (A ++ [125]).length < R.length := by simp; omega
      have h125 : ((125 : UInt8).toNat : Int) = 125 := rfl
      exact hR (R[i - (A ++ [125]).length]'hj) (List.getElem_mem _) (UInt8.toNat_inj.1 (by omega))
theorem last_line (zs : List SLab) (va tm sr sq : Int) : Lib.lastIndexByte ⟨(lineR zs va tm sr sq).toArray⟩ 125 + 1 = ((textL zs).length : Int) := by
  rw [lineR_tail]
  unfold textL
  rw [last_at _ _ (tail_no va tm sr sq), List.length_append]
  simp
theorem line_len (zs : List SLab) (h : zs.length ≤ 100) (va tm sr sq : Int) (k0 : I64 va) (k1 : I64 tm) (k2 : I64 sr) (k3 : I64 sq) : (lineR zs va tm sr sq).length ≤ 100000 := by
  have := (runS_len zs).1
  have l0 := Lib.itoa_length_le va k0.1 k0.2
  have l1 := Lib.itoa_length_le tm k1.1 k1.2
  have l2 := Lib.itoa_length_le sr k2.1 k2.2
  have l3 := Lib.itoa_length_le sq k3.1 k3.2
  rw [lineR_tail]
  unfold tailR textL
  simp only [List.length_append, List.length_nil, List.length_cons]
  have m0 : (markL 0).length = 1 := rfl
  have m1 : (markL 1).length = 2 := rfl
  have m2 : (markL 2).length = 2 := rfl
  have m3 : (markL 3).length = 1 := rfl
  omega
end Go.Proofs.YteagpkkffnehiaaGreatDoor
