/- Records as bytes: what lies at a front, all records from the front on, what a cut leaves of them. It speaks of no program. -/
namespace Go.Proofs.Yteddlpcnefogpaa
/-- a record: its kind, its bytes -/
abbrev Rec := UInt8 × List UInt8
def OkR (r : Rec) : Prop := r.1 ≠ 0 ∧ r.2.length ≤ 65535
def encR (r : Rec) : List UInt8 := UInt8.ofNat r.2.length :: UInt8.ofNat (r.2.length / 256) :: r.1 :: (r.2 ++ [r.1])
theorem encR_len (r : Rec) : (encR r).length = 4 + r.2.length := by unfold encR; simp; omega
def firstR : List UInt8 → Option Rec
  | a :: b :: k :: t => if a.toNat + b.toNat * 256 < t.length ∧ k ≠ 0 ∧ t[a.toNat + b.toNat * 256]? = some k then some (k, t.take (a.toNat + b.toNat * 256)) else none
  | _ => none
theorem ofNat8 {n : Nat} (h : n < 256) : UInt8.ofNat n = UInt8.ofNat n ∧ (UInt8.ofNat n).toNat = n := ⟨rfl, by rw [UInt8.toNat_ofNat', Nat.mod_eq_of_lt (by omega)]⟩
theorem lo_hi {n : Nat} (h : n ≤ 65535) : (UInt8.ofNat n).toNat + (UInt8.ofNat (n / 256)).toNat * 256 = n := by
  rw [UInt8.toNat_ofNat', UInt8.toNat_ofNat']
  omega
theorem firstR_enc {r : Rec} (h : OkR r) (t : List UInt8) : firstR (encR r ++ t) = some r := by
  obtain ⟨k, d⟩ := r
  obtain ⟨h1, h2⟩ := h
  dsimp only at h1 h2
  unfold encR firstR
  simp only [List.cons_append]
  rw [lo_hi h2, if_pos ⟨by simp, h1, by simp⟩]
  simp
theorem firstR_some {l : List UInt8} {r : Rec} (h : firstR l = some r) : OkR r ∧ ∃ t, l = encR r ++ t := by
  match l, h with
  | a :: b :: k :: t, h =>
    rw [firstR] at h
    by_cases hc : a.toNat + b.toNat * 256 < t.length ∧ k ≠ 0 ∧ t[a.toNat + b.toNat * 256]? = some k
    · rw [if_pos hc] at h
      obtain ⟨h1, h2, h3⟩ := hc
      have h := (Option.some.inj h).symm
      subst h
      have ha := a.toNat_lt
      have hb := b.toNat_lt
      have el : (t.take (a.toNat + b.toNat * 256)).length = a.toNat + b.toNat * 256 := by rw [List.length_take]; omega
      refine ⟨⟨h2, by dsimp only; omega⟩, t.drop (a.toNat + b.toNat * 256 + 1), ?_⟩
      unfold encR
      dsimp only
      rw [el]
      have e1 : UInt8.ofNat (a.toNat + b.toNat * 256) = a := by
        apply UInt8.toNat_inj.1
        rw [UInt8.toNat_ofNat']
        omega
      have e2 : UInt8.ofNat ((a.toNat + b.toNat * 256) / 256) = b := by
        apply UInt8.toNat_inj.1
        rw [UInt8.toNat_ofNat']
        omega
      rw [e1, e2]
      simp only [List.cons_append, List.append_assoc, List.cons.injEq, true_and, List.nil_append]
      obtain ⟨h4, h5⟩ := List.getElem?_eq_some_iff.1 h3
      conv => lhs; rw [← List.take_append_drop (a.toNat + b.toNat * 256) t]
      rw [List.drop_eq_getElem_cons h4, h5]
    · rw [if_neg hc] at h
      cases h
theorem firstR_len {l : List UInt8} {r : Rec} (h : firstR l = some r) : 4 + r.2.length ≤ l.length := by
  obtain ⟨_, t, rfl⟩ := firstR_some h
  rw [List.length_append, encR_len]
  omega
theorem firstR_short {l : List UInt8} (h : l.length < 4) : firstR l = none := by
  cases e : firstR l with
  | none => rfl
  | some r => have := firstR_len e; omega
def scanR (l : List UInt8) : List Rec :=
  match _h : firstR l with
  | none => []
  | some r => r :: scanR (l.drop (4 + r.2.length))
termination_by l.length
decreasing_by
  have := firstR_len _h
  rw [List.length_drop]
  omega
theorem scanR_none {l : List UInt8} (h : firstR l = none) : scanR l = [] := by
  rw [scanR]; split
  · rfl
  · rename_i r e; rw [h] at e; cases e
theorem scanR_some {l : List UInt8} {r : Rec} (h : firstR l = some r) : scanR l = r :: scanR (l.drop (4 + r.2.length)) := by
  rw [scanR]; split
  · rename_i e; rw [h] at e; cases e
  · rename_i q e; rw [h] at e; cases e; rfl
/-- how many bytes records take -/
def endR : List Rec → Nat
  | [] => 0
  | r :: rs => 4 + r.2.length + endR rs
theorem endR_app (a b : List Rec) : endR (a ++ b) = endR a + endR b := by
  induction a with
  | nil => simp [endR]
  | cons r a ih => simp only [List.cons_append, endR, ih]; omega
theorem endR_snoc (a : List Rec) (r : Rec) : endR (a ++ [r]) = endR a + (4 + r.2.length) := by rw [endR_app]; simp [endR]
def flatE (rs : List Rec) : List UInt8 := rs.flatMap encR
theorem flatE_nil : flatE [] = [] := rfl
theorem flatE_cons (r : Rec) (rs : List Rec) : flatE (r :: rs) = encR r ++ flatE rs := rfl
theorem flatE_app (a b : List Rec) : flatE (a ++ b) = flatE a ++ flatE b := by unfold flatE; simp
theorem flatE_snoc (a : List Rec) (r : Rec) : flatE (a ++ [r]) = flatE a ++ encR r := by rw [flatE_app]; simp [flatE]
theorem flatE_len (rs : List Rec) : (flatE rs).length = endR rs := by
  induction rs with
  | nil => rfl
  | cons r rs ih => rw [flatE_cons, List.length_append, encR_len, ih]; rfl
theorem scanR_flat {rs : List Rec} (h : ∀ r ∈ rs, OkR r) (t : List UInt8) : scanR (flatE rs ++ t) = rs ++ scanR t := by
  induction rs with
  | nil => simp [flatE]
  | cons r rs ih =>
    rw [flatE_cons, List.append_assoc, scanR_some (firstR_enc (h r List.mem_cons_self) _), List.drop_append_of_le_length (by rw [encR_len]; omega), List.drop_eq_nil_of_le (by rw [encR_len]; omega), List.nil_append, ih (fun q hq => h q (List.mem_cons_of_mem _ hq))]
    rfl
theorem scanR_all {rs : List Rec} (h : ∀ r ∈ rs, OkR r) : scanR (flatE rs) = rs := by
  have := scanR_flat h []
  have e : scanR [] = [] := scanR_none rfl
  rw [e, List.append_nil, List.append_nil] at this
  exact this
/-- the bytes are those of the records, and more -/
theorem scanR_is (l : List UInt8) : (∀ r ∈ scanR l, OkR r) ∧ ∃ t, l = flatE (scanR l) ++ t ∧ firstR t = none := by
  cases e : firstR l with
  | none => rw [scanR_none e]; exact ⟨by simp, l, rfl, e⟩
  | some r =>
    obtain ⟨hr, t, rfl⟩ := firstR_some e
    rw [scanR_some e, List.drop_append_of_le_length (by rw [encR_len]; omega), List.drop_eq_nil_of_le (by rw [encR_len]; omega), List.nil_append]
    have hl : t.length < (encR r ++ t).length := by rw [List.length_append, encR_len]; omega
    obtain ⟨h1, u, h2, h3⟩ := scanR_is t
    refine ⟨fun q hq => ?_, u, ?_, h3⟩
    · rcases List.mem_cons.1 hq with rfl | hq
      · exact hr
      · exact h1 q hq
    · rw [flatE_cons, List.append_assoc, ← h2]
termination_by l.length
theorem endR_le (l : List UInt8) : endR (scanR l) ≤ l.length := by
  obtain ⟨_, t, h, _⟩ := scanR_is l
  have := congrArg List.length h
  rw [List.length_append, flatE_len] at this
  omega
theorem scanR_take (l : List UInt8) : l.take (endR (scanR l)) = flatE (scanR l) := by
  obtain ⟨_, t, h, _⟩ := scanR_is l
  have e := flatE_len (scanR l)
  generalize scanR l = R at *
  subst h
  rw [← e, List.take_left]
/-- a step of the loop -/
theorem scanR_step {l : List UInt8} {pre : List Rec} {r : Rec} (h : scanR l = pre ++ scanR (l.drop (endR pre))) (hr : firstR (l.drop (endR pre)) = some r) : scanR l = (pre ++ [r]) ++ scanR (l.drop (endR (pre ++ [r]))) := by
  rw [h, scanR_some hr, List.drop_drop, endR_snoc]
  simp
theorem firstR_cut {r : Rec} (h : OkR r) {k : Nat} (hk : k < 4 + r.2.length) : firstR ((encR r).take k) = none := by
  cases e : firstR ((encR r).take k) with
  | none => rfl
  | some q =>
    obtain ⟨hq, t, ht⟩ := firstR_some e
    have h1 := firstR_enc h []
    have e2 : encR r = encR q ++ (t ++ (encR r).drop k) := by
      rw [← List.append_assoc, ← ht, List.take_append_drop]
    rw [List.append_nil, e2, firstR_enc hq] at h1
    cases h1
    have := congrArg List.length ht
    rw [List.length_append, encR_len, List.length_take] at this
    omega
theorem scan_cut {rs : List Rec} (h : ∀ r ∈ rs, OkR r) (k : Nat) : ∃ n, n ≤ rs.length ∧ scanR ((flatE rs).take k) = rs.take n ∧ endR (rs.take n) ≤ k ∧ (n < rs.length → k < endR (rs.take (n + 1))) := by
  induction rs generalizing k with
  | nil => exact ⟨0, by simp, by rw [flatE_nil]; simp; exact scanR_none rfl, by simp [endR], by simp⟩
  | cons r rs ih =>
    have hr := h r List.mem_cons_self
    have hrs := fun q hq => h q (List.mem_cons_of_mem _ hq)
    rw [flatE_cons]
    by_cases hk : k < 4 + r.2.length
    · refine ⟨0, by simp, ?_, by simp [endR], fun _ => by simpa [endR] using hk⟩
      rw [List.take_append_of_le_length (by rw [encR_len]; omega)]
      exact scanR_none (firstR_cut hr hk)
    · obtain ⟨n, h1, h2, h3, h4⟩ := ih hrs (k - (4 + r.2.length))
      refine ⟨n + 1, by simp; omega, ?_, by simp only [List.take_succ_cons, endR]; omega, fun hn => ?_⟩
      · rw [List.take_append, List.take_of_length_le (by rw [encR_len]; omega), encR_len]
        have := scanR_flat (rs := [r]) (by simpa using hr) ((flatE rs).take (k - (4 + r.2.length)))
        have e : flatE [r] = encR r := by simp [flatE]
        rw [e] at this
        rw [this, h2]
        rfl
      · have := h4 (by simpa using hn)
        simp only [List.take_succ_cons, endR] at this ⊢
        omega
theorem endR_mono {rs : List Rec} {a b : Nat} (h : a ≤ b) : endR (rs.take a) ≤ endR (rs.take b) := by
  have e : rs.take b = rs.take a ++ (rs.drop a).take (b - a) := by
    conv => lhs; rw [show b = a + (b - a) by omega]
    rw [List.take_add]
  rw [e, endR_app]
  omega
theorem endR_lt {rs : List Rec} {a b : Nat} (h : a < b) (hb : b ≤ rs.length) : endR (rs.take a) < endR (rs.take b) := by
  have h1 : endR (rs.take a) < endR (rs.take (a + 1)) := by
    rw [List.take_succ_eq_append_getElem (by omega), endR_snoc]; omega
  exact Nat.lt_of_lt_of_le h1 (endR_mono (by omega))
/-- the number of records is told by their ends -/
theorem scan_front {rs : List Rec} (h : ∀ r ∈ rs, OkR r) {k n : Nat} (hn : n ≤ rs.length) (h1 : endR (rs.take n) ≤ k) (h2 : n < rs.length → k < endR (rs.take (n + 1))) : scanR ((flatE rs).take k) = rs.take n := by
  obtain ⟨m, q1, q2, q3, q4⟩ := scan_cut h k
  rw [q2]
  rcases Nat.lt_trichotomy m n with q | q | q
  · have := q4 (by omega)
    have := endR_mono (rs := rs) (show m + 1 ≤ n by omega)
    omega
  · rw [q]
  · have := h2 (by omega)
    have := endR_mono (rs := rs) (show n + 1 ≤ m by omega)
    omega
end Go.Proofs.Yteddlpcnefogpaa
