/- Plain lists: numbers of base 2^16, divided by ten. No Go in sight. -/
import Derived.Test.YtmiahbaadlddjaaDoorRefB
import Derived.Lib.Hide
import Derived.Lib.ItoaNum
namespace Go.Proofs.YtmiahbaadlddjaaDoor
open Go Go.Proofs Go.RowKit
theorem len_pow : ∀ k r : Nat, 1 ≤ k → r < 10 ^ k → (Lib.decDigits r).length ≤ k := by
  have h : ∀ k r : Nat, 1 ≤ k → r < 10 ^ k → (Lib.decDigits r).length ≤ k := by
    intro k
    induction k with
    | zero => intro r h _; omega
    | succ k ih =>
      intro r _ hr
      rw [Lib.decDigits]
      split
      · simp
      · rename_i h
        have hp : 10 ^ (k + 1) = 10 ^ k * 10 := Nat.pow_succ 10 k
        have hk : 1 ≤ k := by
          rcases Nat.eq_zero_or_pos k with h0 | h0
          · subst h0; simp at hr; omega
          · exact h0
        have := ih (r / 10) hk (by rw [hp] at hr; omega)
        simp; omega
  exact h
theorem len19 (r : Nat) (hr : r < 10000000000000000000) : (Lib.decDigits r).length ≤ 19 := len_pow 19 r (by omega) (by simpa using hr)
theorem len20 (r : Nat) (hr : r < 18446744073709551616) : (Lib.decDigits r).length ≤ 20 := len_pow 20 r (by omega) (by simpa using (show r < 100000000000000000000 by omega))
theorem bapp (a b : List UInt8) : (⟨a.toArray⟩ : ByteArray) ++ ⟨b.toArray⟩ = ⟨(a ++ b).toArray⟩ := by
  apply ByteArray.ext
  simp
theorem bapp0 (b : List UInt8) : (⟨#[]⟩ : ByteArray) ++ ⟨b.toArray⟩ = ⟨b.toArray⟩ := bapp [] b
theorem bapp1 (c : UInt8) (b : List UInt8) : (⟨#[c]⟩ : ByteArray) ++ ⟨b.toArray⟩ = ⟨(c :: b).toArray⟩ := bapp [c] b
def valL (l : List Nat) : Nat := l.foldl (fun a d => a * 65536 + d) 0
theorem valL_snoc (l : List Nat) (d : Nat) : valL (l ++ [d]) = valL l * 65536 + d := by simp [valL]
theorem take_snocN (l : List Nat) (k : Nat) (h : k < l.length) : l.take (k + 1) = l.take k ++ [l[k]] := by
  rw [List.take_succ_eq_append_getElem h]
/-- one round of the inner loop -/
structure DG (L Q : List Nat) (r i : Nat) : Prop where
  len : Q.length = i
  eqn : valL (L.take i) = valL Q * 10 + r
  lt : r < 10
  all : ∀ q ∈ Q, q < 65536
theorem DG.step {L Q : List Nat} {r i l : Nat} (h : DG L Q r i) (hi : i < L.length) (hl : L[i] = l) (hb : l < 65536) :
    DG L (Q ++ [(r * 65536 + l) / 10]) ((r * 65536 + l) % 10) (i + 1) := by
  obtain ⟨a, b, c, d⟩ := h
  refine ⟨by simp [a], ?_, Nat.mod_lt _ (by omega), ?_⟩
  · rw [take_snocN L i hi, hl, valL_snoc, valL_snoc, b]
    omega
  · intro q hq
    rw [List.mem_append] at hq
    rcases hq with hq | hq
    · exact d q hq
    · simp at hq; subst hq; omega
theorem DG.pos {Q : List Nat} {q : Nat} : decide (0 < valL (Q ++ [q])) = (decide (0 < valL Q) || decide (0 < q)) := by
  rw [valL_snoc, Bool.eq_iff_iff]; simp; omega
/-- what the outer loop keeps -/
def DO (N : Nat) (L : List Nat) (s : List UInt8) (m : Bool) : Prop :=
  L.length = 8 ∧ (∀ d ∈ L, d < 65536) ∧ (m = true → Lib.decDigits N = Lib.decDigits (valL L) ++ s) ∧ (m = false → Lib.decDigits N = s)
theorem decDigits_ten (n : Nat) (h : 0 < n / 10) : Lib.decDigits n = Lib.decDigits (n / 10) ++ [UInt8.ofNat (48 + n % 10)] := by
  rw [Lib.decDigits, dif_neg (by omega)]
end Go.Proofs.YtmiahbaadlddjaaDoor
