/- belfryref9: Printable, Quote. -/
import Derived.Test.YtcfdpbbpdnpnnaaDoorSpecial
namespace Go.Proofs.YtcfdpbbpdnpnnaaDoor
open Go Go.Proofs Go.RowKit Go.Shelf
set_option maxRecDepth 100000
def badB (c : UInt8) : Bool := decide (c.toNat < 32) || decide (126 < c.toNat)
theorem printable_at (s : ByteArray) (l : List UInt8) (hud : s.data.toList = l) (hl : l.length ≤ 9223372036854775807) (w : World) :
    Calls Tryd.prog 14 #[.string s] w fun e w' => e = .returned (.bool (!l.any badB)) ∧ w = w' := by
  have hsz : s.size = l.length := by rw [Lib.size_eq, hud]
  have HU := Lib.hid hud
  clear hud
  go_enter Tryd.func14, Tryd.ntmps14
  go_wp2
  go_loop [3] (fun i => ∃ k : Nat, k ≤ l.length ∧ i = .int .i64 (k : Int) ∧ (l.take k).any badB = false) (fun i => l.length - (intOf i).toNat)
  case atStart => exact ⟨0, Nat.zero_le _, rfl, rfl⟩
  case round =>
    obtain ⟨k, hk, rfl, hP⟩ := hrel
    by_cases hlt : k < l.length
    · have hi : k < s.size := by omega
      obtain ⟨c, hc⟩ : ∃ c : UInt8, s[k]'hi = c := ⟨_, rfl⟩
      have hcl : l[k]? = some c := by rw [← HU.out, ← hc]; exact Lib.data_getElem? s k hi
      obtain ⟨hn, he⟩ := List.getElem?_eq_some_iff.1 hcl
      have hsn : (l.take (k + 1)).any badB = badB c := by rw [List.take_succ_eq_append_getElem hn, he, List.any_append, hP]; simp
      have h0 : (0 : Int) ≤ (k : Int) := by omega
      have h1 : (k : Int) < (s.size : Int) := by omega
      have hbd : badB c = (decide (c.toNat < 32) || decide (126 < c.toNat)) := rfl
      have hin : c ∈ l := List.mem_of_getElem? hcl
      have SN := Lib.hid hsn
      have PP := Lib.hid hP
      have BD := Lib.hid hbd
      have IN := Lib.hid hin
      clear hsn hP hcl he hbd hin
      by_cases q1 : c.toNat < 32
      · have d1 : decide ((c.toNat : Int) < 32) = true := by rw [decide_eq_true_eq]; omega
        go_wp2
        go_ret
        exact ⟨by rw [List.any_eq_true.2 ⟨c, IN.out, by rw [BD.out, decide_eq_true q1]; rfl⟩]; rfl, rfl⟩
      · have d1 : decide ((c.toNat : Int) < 32) = false := by rw [decide_eq_false_iff_not]; omega
        by_cases q2 : 126 < c.toNat
        · have d2 : decide ((126 : Int) < (c.toNat : Int)) = true := by rw [decide_eq_true_eq]; omega
          go_wp2
          go_ret
          exact ⟨by rw [List.any_eq_true.2 ⟨c, IN.out, by rw [BD.out, decide_eq_true q2, Bool.or_true]⟩]; rfl, rfl⟩
        · have d2 : decide ((126 : Int) < (c.toNat : Int)) = false := by rw [decide_eq_false_iff_not]; omega
          go_wp2
          go_round
          case rel => exact ⟨k + 1, by omega, by go_num, by rw [SN.out, BD.out, decide_eq_false q1, decide_eq_false q2]; rfl⟩
          case measure => simp [intOf]; omega
    · obtain rfl : k = l.length := by omega
      have h1 : ¬ (l.length : Int) < (s.size : Int) := by omega
      rw [List.take_length] at hP
      have PP := Lib.hid hP
      clear hP
      go_wp2
      go_ret
      exact ⟨by rw [PP.out]; rfl, rfl⟩

/-- a text with a stroke ahead of what stands for more than itself -/
def quoteC (c : UInt8) : List UInt8 := if (specialL.contains c || c.toNat == 46) = true then [92, c] else [c]
def quoteR (l : List UInt8) : List UInt8 := l.flatMap quoteC
theorem quoteR_snoc (l : List UInt8) (c : UInt8) : quoteR (l ++ [c]) = quoteR l ++ quoteC c := by unfold quoteR; simp
theorem quoteR_len (l : List UInt8) : (quoteR l).length ≤ 2 * l.length := by
  induction l with
  | nil => exact Nat.le_refl _
  | cons c t ih =>
    show (quoteC c ++ quoteR t).length ≤ _
    rw [List.length_append, List.length_cons]
    have : (quoteC c).length ≤ 2 := by unfold quoteC; split <;> simp
    omega
theorem qapp (a b : List UInt8) : ((⟨a.toArray⟩ : ByteArray) ++ ⟨b.toArray⟩) = ⟨(a ++ b).toArray⟩ := by
  apply ByteArray.ext
  simp [ByteArray.data_append]
theorem qapp_one (a : List UInt8) (s : ByteArray) (k : Nat) (hk : k < s.size) : ((⟨a.toArray⟩ : ByteArray) ++ s.extract k (k + 1)) = ⟨(a ++ [s[k]'hk]).toArray⟩ := by
  have e : (s.extract k (k + 1)).data.toList = [s[k]'hk] := by
    rw [Lib.extract_data, Nat.add_sub_cancel_left]
    have hd := Lib.data_getElem? s k hk
    obtain ⟨hn, he⟩ := List.getElem?_eq_some_iff.1 hd
    rw [List.drop_eq_getElem_cons hn, he]
    rfl
  have e2 : s.extract k (k + 1) = ⟨[s[k]'hk].toArray⟩ := by
    apply ByteArray.ext
    apply Array.toList_inj.1
    rw [e]
  rw [e2]
  exact qapp a _
theorem rquote_at (s : ByteArray) (l : List UInt8) (hud : s.data.toList = l) (hl : l.length ≤ 1000) (w : World) :
    Calls Tryd.prog 16 #[.string s] w fun e w' => e = .returned (.string ⟨(quoteR l).toArray⟩) ∧ Below w.heap.size w w' := by
  have hsz : s.size = l.length := by rw [Lib.size_eq, hud]
  have HU := Lib.hid hud
  have SP := Lib.hid (fun (c : UInt8) (W : World) => special_any c W)
  clear hud
  go_enter Tryd.func16, Tryd.ntmps16
  go_wp2
  go_loopw [3, 4] (fun o i wr => ∃ (k : Nat) (T : List UInt8), k ≤ l.length ∧ i = .int .i64 (k : Int) ∧ o = .string ⟨T.toArray⟩ ∧ T = quoteR (l.take k) ∧ Below w.heap.size w wr) (fun _ i _ => l.length - (intOf i).toNat)
  case atStart => exact ⟨0, [], Nat.zero_le _, rfl, rfl, rfl, Below.refl _ _⟩
  case round =>
    obtain ⟨k, T, hk, rfl, rfl, hT, hB⟩ := hrel
    have hTl : T.length ≤ 2000 := by
      have := quoteR_len (l.take k)
      rw [List.length_take] at this
      rw [hT]; omega
    by_cases hlt : k < l.length
    · have hi : k < s.size := by omega
      have app := qapp_one T s k hi
      have app2 := qapp_one (T ++ [92]) s k hi
      obtain ⟨c, hc⟩ : ∃ c : UInt8, s[k]'hi = c := ⟨_, rfl⟩
      have hcl : l[k]? = some c := by rw [← HU.out, ← hc]; exact Lib.data_getElem? s k hi
      obtain ⟨hn, he⟩ := List.getElem?_eq_some_iff.1 hcl
      have hsn : quoteR (l.take (k + 1)) = T ++ quoteC c := by rw [List.take_succ_eq_append_getElem hn, he, quoteR_snoc, hT]
      rw [hc] at app app2
      have h0 : (0 : Int) ≤ (k : Int) := by omega
      have h1 : (k : Int) < (s.size : Int) := by omega
      have S1 := SP.out c wr
      unfold quoteC at hsn
      cases q : specialL.contains c
      · rw [q] at S1
        rw [q, Bool.false_or] at hsn
        by_cases q2 : c.toNat = 46
        · have p2 : ((c.toNat : Int) == 46) = true := by rw [beq_iff_eq]; omega
          rw [if_pos (by rw [beq_iff_eq]; exact q2)] at hsn
          have S1 := Lib.hid S1
          have SN := Lib.hid hsn
          have AP2 := Lib.hid app2
          clear hsn hcl he hT app app2 q q2
          go_wp2_with fail
          refine (S1.out).mono ?_
          rintro e w1 ⟨rfl, rfl⟩
          go_wp2
          go_roundw
          case rel => exact ⟨k + 1, T ++ [92, c], by omega, by go_num, by rw [show ((⟨T.toArray⟩ : ByteArray) ++ ⟨#[92]⟩) = ⟨(T ++ [92]).toArray⟩ from qapp T [92], AP2.out]; simp, SN.out.symm, hB⟩
          case measure => simp [intOf]; omega
        · have p2 : ((c.toNat : Int) == 46) = false := by rw [beq_eq_false_iff_ne]; omega
          rw [if_neg (by rw [beq_iff_eq]; exact q2)] at hsn
          have S1 := Lib.hid S1
          have SN := Lib.hid hsn
          have AP := Lib.hid app
          clear hsn hcl he hT app app2 q q2
          go_wp2_with fail
          refine (S1.out).mono ?_
          rintro e w1 ⟨rfl, rfl⟩
          go_wp2
          go_roundw
          case rel => exact ⟨k + 1, T ++ [c], by omega, by go_num, by rw [AP.out], SN.out.symm, hB⟩
          case measure => simp [intOf]; omega
      · rw [q] at S1
        rw [q, Bool.true_or, if_pos rfl] at hsn
        have S1 := Lib.hid S1
        have SN := Lib.hid hsn
        have AP2 := Lib.hid app2
        clear hsn hcl he hT app app2 q
        go_wp2_with fail
        refine (S1.out).mono ?_
        rintro e w1 ⟨rfl, rfl⟩
        go_wp2
        go_roundw
        case rel => exact ⟨k + 1, T ++ [92, c], by omega, by go_num, by rw [show ((⟨T.toArray⟩ : ByteArray) ++ ⟨#[92]⟩) = ⟨(T ++ [92]).toArray⟩ from qapp T [92], AP2.out]; simp, SN.out.symm, hB⟩
        case measure => simp [intOf]; omega
    · obtain rfl : k = l.length := by omega
      have h1 : ¬ (l.length : Int) < (s.size : Int) := by omega
      rw [List.take_length] at hT
      have HT := Lib.hid hT
      clear hT
      go_wp2
      go_ret
      exact ⟨by rw [HT.out]; rfl, hB⟩
end Go.Proofs.YtcfdpbbpdnpnnaaDoor
