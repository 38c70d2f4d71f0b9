/- belfryref9: Special. -/
import Derived.Test.YtcfdpbbpdnpnnaaDoorReader
import Derived.Test.YtcfdpbbpdnpnnaaDoorOps
import Derived.Test.YtcfdpbbpdnpnnaaDoorShelf
import Derived.Laws.AppendOwn
import Derived.OwnWalk
namespace Go.Proofs.YtcfdpbbpdnpnnaaDoor
open Go Go.Proofs Go.RowKit Go.Shelf
set_option maxRecDepth 100000
def specialL : List UInt8 := [40, 41, 91, 93, 124, 42, 43, 63, 92]
theorem special_any (c : UInt8) (w : World) :
    Calls Tryd.prog 27 #[.int .u8 (c.toNat : Int)] w fun e w' => e = .returned (.bool (specialL.contains c)) ∧ w = w' := by
  obtain ⟨R, hR⟩ : ∃ R, specialL.contains c = R := ⟨_, rfl⟩
  rw [hR]
  have HR := Lib.hid hR
  clear hR
  have hc := c.toNat_lt
  go_enter Tryd.func27, Tryd.ntmps27
  go_wp2
  go_loop [4] (fun i => ∃ k : Nat, k ≤ 9 ∧ i = .int .i64 (k : Int) ∧ (specialL.take k).contains c = false) (fun i => 9 - (intOf i).toNat)
  case atStart => exact ⟨0, Nat.zero_le _, rfl, rfl⟩
  case round =>
    obtain ⟨k, hk, rfl, hP⟩ := hrel
    have hcs : k = 0 ∨ k = 1 ∨ k = 2 ∨ k = 3 ∨ k = 4 ∨ k = 5 ∨ k = 6 ∨ k = 7 ∨ k = 8 ∨ k = 9 := by omega
    rcases hcs with rfl | rfl | rfl | rfl | rfl | rfl | rfl | rfl | rfl | rfl
    · have g : (({ data := #[40, 41, 91, 93, 124, 42, 43, 63, 92] } : ByteArray)[0]'(by decide)).toNat = 40 := by decide
      by_cases q : c = 40
      · have EX : Hid (R = true) := by unfold Hid; rw [← HR.out, q]; decide
        have q1 : ((40 : Int) == (c.toNat : Int)) = true := by rw [q]; decide
        clear q hP
        go_wp2
        go_ret
        exact ⟨by rw [EX.out]; rfl, rfl⟩
      · have q0 : c.toNat ≠ 40 := fun e => q (UInt8.toNat.inj (by rw [e]; decide))
        have q1 : ((40 : Int) == (c.toNat : Int)) = false := by rw [beq_eq_false_iff_ne]; omega
        have NX : Hid ((specialL.take 1).contains c = false) := by
          unfold Hid
          have e : specialL.take 1 = specialL.take 0 ++ [40] := rfl
          cases h : (specialL.take 1).contains c
          · rfl
          · exfalso
            rw [e, List.contains_iff_mem, List.mem_append] at h
            rcases h with h | h
            · rw [List.contains_iff_mem.2 h] at hP; cases hP
            · exact q (List.mem_singleton.1 h)
        clear q hP q0
        go_wp2
        go_round
        case rel => exact ⟨1, by omega, by go_num, NX.out⟩
        case measure => simp [intOf]
    · have g : (({ data := #[40, 41, 91, 93, 124, 42, 43, 63, 92] } : ByteArray)[1]'(by decide)).toNat = 41 := by decide
      by_cases q : c = 41
      · have EX : Hid (R = true) := by unfold Hid; rw [← HR.out, q]; decide
        have q1 : ((41 : Int) == (c.toNat : Int)) = true := by rw [q]; decide
        clear q hP
        go_wp2
        go_ret
        exact ⟨by rw [EX.out]; rfl, rfl⟩
      · have q0 : c.toNat ≠ 41 := fun e => q (UInt8.toNat.inj (by rw [e]; decide))
        have q1 : ((41 : Int) == (c.toNat : Int)) = false := by rw [beq_eq_false_iff_ne]; omega
        have NX : Hid ((specialL.take 2).contains c = false) := by
          unfold Hid
          have e : specialL.take 2 = specialL.take 1 ++ [41] := rfl
          cases h : (specialL.take 2).contains c
          · rfl
          · exfalso
            rw [e, List.contains_iff_mem, List.mem_append] at h
            rcases h with h | h
            · rw [List.contains_iff_mem.2 h] at hP; cases hP
            · exact q (List.mem_singleton.1 h)
        clear q hP q0
        go_wp2
        go_round
        case rel => exact ⟨2, by omega, by go_num, NX.out⟩
        case measure => simp [intOf]
    · have g : (({ data := #[40, 41, 91, 93, 124, 42, 43, 63, 92] } : ByteArray)[2]'(by decide)).toNat = 91 := by decide
      by_cases q : c = 91
      · have EX : Hid (R = true) := by unfold Hid; rw [← HR.out, q]; decide
        have q1 : ((91 : Int) == (c.toNat : Int)) = true := by rw [q]; decide
        clear q hP
        go_wp2
        go_ret
        exact ⟨by rw [EX.out]; rfl, rfl⟩
      · have q0 : c.toNat ≠ 91 := fun e => q (UInt8.toNat.inj (by rw [e]; decide))
        have q1 : ((91 : Int) == (c.toNat : Int)) = false := by rw [beq_eq_false_iff_ne]; omega
        have NX : Hid ((specialL.take 3).contains c = false) := by
          unfold Hid
          have e : specialL.take 3 = specialL.take 2 ++ [91] := rfl
          cases h : (specialL.take 3).contains c
          · rfl
          · exfalso
            rw [e, List.contains_iff_mem, List.mem_append] at h
            rcases h with h | h
            · rw [List.contains_iff_mem.2 h] at hP; cases hP
            · exact q (List.mem_singleton.1 h)
        clear q hP q0
        go_wp2
        go_round
        case rel => exact ⟨3, by omega, by go_num, NX.out⟩
        case measure => simp [intOf]
    · have g : (({ data := #[40, 41, 91, 93, 124, 42, 43, 63, 92] } : ByteArray)[3]'(by decide)).toNat = 93 := by decide
      by_cases q : c = 93
      · have EX : Hid (R = true) := by unfold Hid; rw [← HR.out, q]; decide
        have q1 : ((93 : Int) == (c.toNat : Int)) = true := by rw [q]; decide
        clear q hP
        go_wp2
        go_ret
        exact ⟨by rw [EX.out]; rfl, rfl⟩
      · have q0 : c.toNat ≠ 93 := fun e => q (UInt8.toNat.inj (by rw [e]; decide))
        have q1 : ((93 : Int) == (c.toNat : Int)) = false := by rw [beq_eq_false_iff_ne]; omega
        have NX : Hid ((specialL.take 4).contains c = false) := by
          unfold Hid
          have e : specialL.take 4 = specialL.take 3 ++ [93] := rfl
          cases h : (specialL.take 4).contains c
          · rfl
          · exfalso
            rw [e, List.contains_iff_mem, List.mem_append] at h
            rcases h with h | h
            · rw [List.contains_iff_mem.2 h] at hP; cases hP
            · exact q (List.mem_singleton.1 h)
        clear q hP q0
        go_wp2
        go_round
        case rel => exact ⟨4, by omega, by go_num, NX.out⟩
        case measure => simp [intOf]
    · have g : (({ data := #[40, 41, 91, 93, 124, 42, 43, 63, 92] } : ByteArray)[4]'(by decide)).toNat = 124 := by decide
      by_cases q : c = 124
      · have EX : Hid (R = true) := by unfold Hid; rw [← HR.out, q]; decide
        have q1 : ((124 : Int) == (c.toNat : Int)) = true := by rw [q]; decide
        clear q hP
        go_wp2
        go_ret
        exact ⟨by rw [EX.out]; rfl, rfl⟩
      · have q0 : c.toNat ≠ 124 := fun e => q (UInt8.toNat.inj (by rw [e]; decide))
        have q1 : ((124 : Int) == (c.toNat : Int)) = false := by rw [beq_eq_false_iff_ne]; omega
        have NX : Hid ((specialL.take 5).contains c = false) := by
          unfold Hid
          have e : specialL.take 5 = specialL.take 4 ++ [124] := rfl
          cases h : (specialL.take 5).contains c
          · rfl
          · exfalso
            rw [e, List.contains_iff_mem, List.mem_append] at h
            rcases h with h | h
            · rw [List.contains_iff_mem.2 h] at hP; cases hP
            · exact q (List.mem_singleton.1 h)
        clear q hP q0
        go_wp2
        go_round
        case rel => exact ⟨5, by omega, by go_num, NX.out⟩
        case measure => simp [intOf]
    · have g : (({ data := #[40, 41, 91, 93, 124, 42, 43, 63, 92] } : ByteArray)[5]'(by decide)).toNat = 42 := by decide
      by_cases q : c = 42
      · have EX : Hid (R = true) := by unfold Hid; rw [← HR.out, q]; decide
        have q1 : ((42 : Int) == (c.toNat : Int)) = true := by rw [q]; decide
        clear q hP
        go_wp2
        go_ret
        exact ⟨by rw [EX.out]; rfl, rfl⟩
      · have q0 : c.toNat ≠ 42 := fun e => q (UInt8.toNat.inj (by rw [e]; decide))
        have q1 : ((42 : Int) == (c.toNat : Int)) = false := by rw [beq_eq_false_iff_ne]; omega
        have NX : Hid ((specialL.take 6).contains c = false) := by
          unfold Hid
          have e : specialL.take 6 = specialL.take 5 ++ [42] := rfl
          cases h : (specialL.take 6).contains c
          · rfl
          · exfalso
            rw [e, List.contains_iff_mem, List.mem_append] at h
            rcases h with h | h
            · rw [List.contains_iff_mem.2 h] at hP; cases hP
            · exact q (List.mem_singleton.1 h)
        clear q hP q0
        go_wp2
        go_round
        case rel => exact ⟨6, by omega, by go_num, NX.out⟩
        case measure => simp [intOf]
    · have g : (({ data := #[40, 41, 91, 93, 124, 42, 43, 63, 92] } : ByteArray)[6]'(by decide)).toNat = 43 := by decide
      by_cases q : c = 43
      · have EX : Hid (R = true) := by unfold Hid; rw [← HR.out, q]; decide
        have q1 : ((43 : Int) == (c.toNat : Int)) = true := by rw [q]; decide
        clear q hP
        go_wp2
        go_ret
        exact ⟨by rw [EX.out]; rfl, rfl⟩
      · have q0 : c.toNat ≠ 43 := fun e => q (UInt8.toNat.inj (by rw [e]; decide))
        have q1 : ((43 : Int) == (c.toNat : Int)) = false := by rw [beq_eq_false_iff_ne]; omega
        have NX : Hid ((specialL.take 7).contains c = false) := by
          unfold Hid
          have e : specialL.take 7 = specialL.take 6 ++ [43] := rfl
          cases h : (specialL.take 7).contains c
          · rfl
          · exfalso
            rw [e, List.contains_iff_mem, List.mem_append] at h
            rcases h with h | h
            · rw [List.contains_iff_mem.2 h] at hP; cases hP
            · exact q (List.mem_singleton.1 h)
        clear q hP q0
        go_wp2
        go_round
        case rel => exact ⟨7, by omega, by go_num, NX.out⟩
        case measure => simp [intOf]
    · have g : (({ data := #[40, 41, 91, 93, 124, 42, 43, 63, 92] } : ByteArray)[7]'(by decide)).toNat = 63 := by decide
      by_cases q : c = 63
      · have EX : Hid (R = true) := by unfold Hid; rw [← HR.out, q]; decide
        have q1 : ((63 : Int) == (c.toNat : Int)) = true := by rw [q]; decide
        clear q hP
        go_wp2
        go_ret
        exact ⟨by rw [EX.out]; rfl, rfl⟩
      · have q0 : c.toNat ≠ 63 := fun e => q (UInt8.toNat.inj (by rw [e]; decide))
        have q1 : ((63 : Int) == (c.toNat : Int)) = false := by rw [beq_eq_false_iff_ne]; omega
        have NX : Hid ((specialL.take 8).contains c = false) := by
          unfold Hid
          have e : specialL.take 8 = specialL.take 7 ++ [63] := rfl
          cases h : (specialL.take 8).contains c
          · rfl
          · exfalso
            rw [e, List.contains_iff_mem, List.mem_append] at h
            rcases h with h | h
            · rw [List.contains_iff_mem.2 h] at hP; cases hP
            · exact q (List.mem_singleton.1 h)
        clear q hP q0
        go_wp2
        go_round
        case rel => exact ⟨8, by omega, by go_num, NX.out⟩
        case measure => simp [intOf]
    · have g : (({ data := #[40, 41, 91, 93, 124, 42, 43, 63, 92] } : ByteArray)[8]'(by decide)).toNat = 92 := by decide
      by_cases q : c = 92
      · have EX : Hid (R = true) := by unfold Hid; rw [← HR.out, q]; decide
        have q1 : ((92 : Int) == (c.toNat : Int)) = true := by rw [q]; decide
        clear q hP
        go_wp2
        go_ret
        exact ⟨by rw [EX.out]; rfl, rfl⟩
      · have q0 : c.toNat ≠ 92 := fun e => q (UInt8.toNat.inj (by rw [e]; decide))
        have q1 : ((92 : Int) == (c.toNat : Int)) = false := by rw [beq_eq_false_iff_ne]; omega
        have NX : Hid ((specialL.take 9).contains c = false) := by
          unfold Hid
          have e : specialL.take 9 = specialL.take 8 ++ [92] := rfl
          cases h : (specialL.take 9).contains c
          · rfl
          · exfalso
            rw [e, List.contains_iff_mem, List.mem_append] at h
            rcases h with h | h
            · rw [List.contains_iff_mem.2 h] at hP; cases hP
            · exact q (List.mem_singleton.1 h)
        clear q hP q0
        go_wp2
        go_round
        case rel => exact ⟨9, by omega, by go_num, NX.out⟩
        case measure => simp [intOf]
    · have EX : Hid (R = false) := by unfold Hid; rw [← HR.out]; exact hP
      clear hP
      go_wp2
      go_ret
      exact ⟨by rw [EX.out]; rfl, rfl⟩
end Go.Proofs.YtcfdpbbpdnpnnaaDoor
/- belfryref9: Printable, Quote. -/
namespace Go.Proofs.YtcfdpbbpdnpnnaaDoor
open Go Go.Proofs Go.RowKit Go.Shelf
set_option maxRecDepth 100000
def badB (c : UInt8) : Bool := decide (c.toNat < 32) || decide (126 < c.toNat)
theorem printable_at (s : ByteArray) (l : List UInt8) (hud : s.data.toList = l) (hl : l.length ≤ 9223372036854775807) (w : World) :
    Calls Tryd.prog 14 #[.string s] w fun e w' => e = .returned (.bool (!l.any badB)) ∧ w = w' := by
  have hsz : s.size = l.length := by rw [Lib.size_eq, hud]
  have HU := Lib.hid hud
  clear hud
  go_enter Tryd.func14, Tryd.ntmps14
  go_wp2
  go_loop [3] (fun i => ∃ k : Nat, k ≤ l.length ∧ i = .int .i64 (k : Int) ∧ (l.take k).any badB = false) (fun i => l.length - (intOf i).toNat)
  case atStart => exact ⟨0, Nat.zero_le _, rfl, rfl⟩
  case round =>
    obtain ⟨k, hk, rfl, hP⟩ := hrel
    by_cases hlt : k < l.length
    · have hi : k < s.size := by omega
      obtain ⟨c, hc⟩ : ∃ c : UInt8, s[k]'hi = c := ⟨_, rfl⟩
      have hcl : l[k]? = some c := by rw [← HU.out, ← hc]; exact Lib.data_getElem? s k hi
      obtain ⟨hn, he⟩ := List.getElem?_eq_some_iff.1 hcl
      have hsn : (l.take (k + 1)).any badB = badB c := by rw [List.take_succ_eq_append_getElem hn, he, List.any_append, hP]; simp
      have h0 : (0 : Int) ≤ (k : Int) := by omega
      have h1 : (k : Int) < (s.size : Int) := by omega
      have hbd : badB c = (decide (c.toNat < 32) || decide (126 < c.toNat)) := rfl
      have hin : c ∈ l := List.mem_of_getElem? hcl
      have SN := Lib.hid hsn
      have PP := Lib.hid hP
      have BD := Lib.hid hbd
      have IN := Lib.hid hin
      clear hsn hP hcl he hbd hin
      by_cases q1 : c.toNat < 32
      · have d1 : decide ((c.toNat : Int) < 32) = true := by rw [decide_eq_true_eq]; omega
        go_wp2
        go_ret
        exact ⟨by rw [List.any_eq_true.2 ⟨c, IN.out, by rw [BD.out, decide_eq_true q1]; rfl⟩]; rfl, rfl⟩
      · have d1 : decide ((c.toNat : Int) < 32) = false := by rw [decide_eq_false_iff_not]; omega
        by_cases q2 : 126 < c.toNat
        · have d2 : decide ((126 : Int) < (c.toNat : Int)) = true := by rw [decide_eq_true_eq]; omega
          go_wp2
          go_ret
          exact ⟨by rw [List.any_eq_true.2 ⟨c, IN.out, by rw [BD.out, decide_eq_true q2, Bool.or_true]⟩]; rfl, rfl⟩
        · have d2 : decide ((126 : Int) < (c.toNat : Int)) = false := by rw [decide_eq_false_iff_not]; omega
          go_wp2
          go_round
          case rel => exact ⟨k + 1, by omega, by go_num, by rw [SN.out, BD.out, decide_eq_false q1, decide_eq_false q2]; rfl⟩
          case measure => simp [intOf]; omega
    · obtain rfl : k = l.length := by omega
      have h1 : ¬ (l.length : Int) < (s.size : Int) := by omega
      rw [List.take_length] at hP
      have PP := Lib.hid hP
      clear hP
      go_wp2
      go_ret
      exact ⟨by rw [PP.out]; rfl, rfl⟩

/-- a text with a stroke ahead of what stands for more than itself -/
def quoteC (c : UInt8) : List UInt8 := if (specialL.contains c || c.toNat == 46) = true then [92, c] else [c]
def quoteR (l : List UInt8) : List UInt8 := l.flatMap quoteC
theorem quoteR_snoc (l : List UInt8) (c : UInt8) : quoteR (l ++ [c]) = quoteR l ++ quoteC c := by unfold quoteR; simp
theorem quoteR_len (l : List UInt8) : (quoteR l).length ≤ 2 * l.length := by
  induction l with
  | nil => exact Nat.le_refl _
  | cons c t ih =>
    show (quoteC c ++ quoteR t).length ≤ _
    rw [List.length_append, List.length_cons]
    have : (quoteC c).length ≤ 2 := by unfold quoteC; split <;> simp
    omega
theorem qapp (a b : List UInt8) : ((⟨a.toArray⟩ : ByteArray) ++ ⟨b.toArray⟩) = ⟨(a ++ b).toArray⟩ := by
  apply ByteArray.ext
  simp [ByteArray.data_append]
theorem qapp_one (a : List UInt8) (s : ByteArray) (k : Nat) (hk : k < s.size) : ((⟨a.toArray⟩ : ByteArray) ++ s.extract k (k + 1)) = ⟨(a ++ [s[k]'hk]).toArray⟩ := by
  have e : (s.extract k (k + 1)).data.toList = [s[k]'hk] := by
    rw [Lib.extract_data, Nat.add_sub_cancel_left]
    have hd := Lib.data_getElem? s k hk
    obtain ⟨hn, he⟩ := List.getElem?_eq_some_iff.1 hd
    rw [List.drop_eq_getElem_cons hn, he]
    rfl
  have e2 : s.extract k (k + 1) = ⟨[s[k]'hk].toArray⟩ := by
    apply ByteArray.ext
    apply Array.toList_inj.1
    rw [e]
  rw [e2]
  exact qapp a _
theorem rquote_at (s : ByteArray) (l : List UInt8) (hud : s.data.toList = l) (hl : l.length ≤ 1000) (w : World) :
    Calls Tryd.prog 16 #[.string s] w fun e w' => e = .returned (.string ⟨(quoteR l).toArray⟩) ∧ Below w.heap.size w w' := by
  have hsz : s.size = l.length := by rw [Lib.size_eq, hud]
  have HU := Lib.hid hud
  have SP := Lib.hid (fun (c : UInt8) (W : World) => special_any c W)
  clear hud
  go_enter Tryd.func16, Tryd.ntmps16
  go_wp2
  go_loopw [3, 4] (fun o i wr => ∃ (k : Nat) (T : List UInt8), k ≤ l.length ∧ i = .int .i64 (k : Int) ∧ o = .string ⟨T.toArray⟩ ∧ T = quoteR (l.take k) ∧ Below w.heap.size w wr) (fun _ i _ => l.length - (intOf i).toNat)
  case atStart => exact ⟨0, [], Nat.zero_le _, rfl, rfl, rfl, Below.refl _ _⟩
  case round =>
    obtain ⟨k, T, hk, rfl, rfl, hT, hB⟩ := hrel
    have hTl : T.length ≤ 2000 := by
      have := quoteR_len (l.take k)
      rw [List.length_take] at this
      rw [hT]; omega
    by_cases hlt : k < l.length
    · have hi : k < s.size := by omega
      have app := qapp_one T s k hi
      have app2 := qapp_one (T ++ [92]) s k hi
      obtain ⟨c, hc⟩ : ∃ c : UInt8, s[k]'hi = c := ⟨_, rfl⟩
      have hcl : l[k]? = some c := by rw [← HU.out, ← hc]; exact Lib.data_getElem? s k hi
      obtain ⟨hn, he⟩ := List.getElem?_eq_some_iff.1 hcl
      have hsn : quoteR (l.take (k + 1)) = T ++ quoteC c := by rw [List.take_succ_eq_append_getElem hn, he, quoteR_snoc, hT]
      rw [hc] at app app2
      have h0 : (0 : Int) ≤ (k : Int) := by omega
      have h1 : (k : Int) < (s.size : Int) := by omega
      have S1 := SP.out c wr
      unfold quoteC at hsn
      cases q : specialL.contains c
      · rw [q] at S1
        rw [q, Bool.false_or] at hsn
        by_cases q2 : c.toNat = 46
        · have p2 : ((c.toNat : Int) == 46) = true := by rw [beq_iff_eq]; omega
          rw [if_pos (by rw [beq_iff_eq]; exact q2)] at hsn
          have S1 := Lib.hid S1
          have SN := Lib.hid hsn
          have AP2 := Lib.hid app2
          clear hsn hcl he hT app app2 q q2
          go_wp2_with fail
          refine (S1.out).mono ?_
          rintro e w1 ⟨rfl, rfl⟩
          go_wp2
          go_roundw
          case rel => exact ⟨k + 1, T ++ [92, c], by omega, by go_num, by rw [show ((⟨T.toArray⟩ : ByteArray) ++ ⟨#[92]⟩) = ⟨(T ++ [92]).toArray⟩ from qapp T [92], AP2.out]; simp, SN.out.symm, hB⟩
          case measure => simp [intOf]; omega
        · have p2 : ((c.toNat : Int) == 46) = false := by rw [beq_eq_false_iff_ne]; omega
          rw [if_neg (by rw [beq_iff_eq]; exact q2)] at hsn
          have S1 := Lib.hid S1
          have SN := Lib.hid hsn
          have AP := Lib.hid app
          clear hsn hcl he hT app app2 q q2
          go_wp2_with fail
          refine (S1.out).mono ?_
          rintro e w1 ⟨rfl, rfl⟩
          go_wp2
          go_roundw
          case rel => exact ⟨k + 1, T ++ [c], by omega, by go_num, by rw [AP.out], SN.out.symm, hB⟩
          case measure => simp [intOf]; omega
      · rw [q] at S1
        rw [q, Bool.true_or, if_pos rfl] at hsn
        have S1 := Lib.hid S1
        have SN := Lib.hid hsn
        have AP2 := Lib.hid app2
        clear hsn hcl he hT app app2 q
        go_wp2_with fail
        refine (S1.out).mono ?_
        rintro e w1 ⟨rfl, rfl⟩
        go_wp2
        go_roundw
        case rel => exact ⟨k + 1, T ++ [92, c], by omega, by go_num, by rw [show ((⟨T.toArray⟩ : ByteArray) ++ ⟨#[92]⟩) = ⟨(T ++ [92]).toArray⟩ from qapp T [92], AP2.out]; simp, SN.out.symm, hB⟩
        case measure => simp [intOf]; omega
    · obtain rfl : k = l.length := by omega
      have h1 : ¬ (l.length : Int) < (s.size : Int) := by omega
      rw [List.take_length] at hT
      have HT := Lib.hid hT
      clear hT
      go_wp2
      go_ret
      exact ⟨by rw [HT.out]; rfl, hB⟩
end Go.Proofs.YtcfdpbbpdnpnnaaDoor
/- regex.Quote. -/
namespace Go.Proofs.YtcfdpbbpdnpnnaaDoor
open Go Go.Proofs Go.RowKit Go.Shelf Go.Lib
set_option maxRecDepth 100000
theorem info_u8 : (Tryd.prog.info? 5).map (fun i => (i.zero, i.size, i.bytes)) = some (some (.int .u8 0), 1, 1) := by kernel_rfl
/-- whether a byte is one of some -/
theorem idx_in (c : UInt8) : ∀ l : List UInt8, (decide (0 ≤ Lib.indexByte l c)) = l.contains c ∧ -1 ≤ Lib.indexByte l c := by
  intro l
  induction l with
  | nil => exact ⟨rfl, Int.le_refl _⟩
  | cons b t ih =>
    unfold Lib.indexByte
    by_cases h : b = c
    · rw [if_pos (by rw [beq_iff_eq]; exact h)]
      refine ⟨?_, by omega⟩
      rw [List.contains_iff_mem.2 (by rw [h]; exact List.mem_cons_self)]; rfl
    · rw [if_neg (by rw [beq_iff_eq]; exact h)]
      have e : (b :: t).contains c = t.contains c := by
        rw [List.contains_cons, show (c == b) = false from by rw [beq_eq_false_iff_ne]; exact fun e => h e.symm, Bool.false_or]
      rw [e, ← ih.1]
      by_cases h2 : Lib.indexByte t c = -1
      · rw [if_pos (by rw [beq_iff_eq]; exact h2), h2]; exact ⟨rfl, by decide⟩
      · rw [if_neg (by rw [beq_iff_eq]; exact h2)]
        have := ih.2
        refine ⟨?_, by omega⟩
        rw [decide_eq_decide]; omega
def quotedL : List UInt8 := specialL ++ [46]
theorem quoted_in (c : UInt8) : quotedL.contains c = (specialL.contains c || c.toNat == 46) := by
  unfold quotedL
  rw [List.contains_eq_any_beq, List.any_append, ← List.contains_eq_any_beq]
  congr 1
  show (c == 46 || false) = _
  rw [Bool.or_false]
  by_cases h : c = 46
  · rw [h]; rfl
  · rw [show (c == 46) = false from by rw [beq_eq_false_iff_ne]; exact h]
    symm
    rw [beq_eq_false_iff_ne]
    exact fun e => h (UInt8.toNat.inj (by rw [e]; rfl))
set_option maxHeartbeats 4000000 in
theorem quote_at (s : ByteArray) (l : List UInt8) (hud : s.data.toList = l) (hl : l.length ≤ 1000) (w : World) :
    Calls Tryd.prog 15 #[.string s] w fun e w' => e = .returned (.string ⟨(quoteR l).toArray⟩) ∧ Below w.heap.size w w' := by
  obtain ⟨i0, hi, hz0, hz1, hz2⟩ := info_parts info_u8
  have HI := Lib.hid hi
  have HZ := Lib.hid hz0
  have HZ1 := Lib.hid hz1
  have HZ2 := Lib.hid hz2
  clear hi hz0 hz1 hz2
  have hsz : s.size = l.length := by rw [Lib.size_eq, hud]
  have HU := Lib.hid hud
  have SP := Lib.hid (fun (c : UInt8) (W : World) => Tryd.strings_IndexByte ⟨quotedL.toArray⟩ (c.toNat : Int) W)
  clear hud
  go_enter Tryd.func15, Tryd.ntmps15
  go_wp2
  go_loopw [3, 7] (fun v i wr => ∃ (k : Nat) (T : List UInt8), k ≤ l.length ∧ i = .int .i64 (k : Int) ∧ wr.ownsRow w.heap.size 5 1 v T.length (byteCells T) ∧ T = quoteR (l.take k) ∧ Below w.heap.size w wr) (fun _ i _ => l.length - (RowKit.intOf i).toNat)
  case atStart => exact ⟨0, [], Nat.zero_le _, rfl, World.ownsRow_nil _ _ _ _, rfl, Below.refl _ _⟩
  case round =>
    obtain ⟨k, T, hk, rfl, hO, hT, hB⟩ := hrel
    have hTl : T.length ≤ 2000 := by
      have := quoteR_len (l.take k)
      rw [List.length_take] at this
      rw [hT]; omega
    by_cases hlt : k < l.length
    · have hi : k < s.size := by omega
      obtain ⟨c, hc⟩ : ∃ c : UInt8, s[k]'hi = c := ⟨_, rfl⟩
      have hcl : l[k]? = some c := by rw [← HU.out, ← hc]; exact Lib.data_getElem? s k hi
      obtain ⟨hn, he⟩ := List.getElem?_eq_some_iff.1 hcl
      have hsn : quoteR (l.take (k + 1)) = T ++ quoteC c := by rw [List.take_succ_eq_append_getElem hn, he, quoteR_snoc, hT]
      have h0 : (0 : Int) ≤ (k : Int) := by omega
      have h1 : (k : Int) < (l.length : Int) := by omega
      have h2 : (k : Int) < (s.size : Int) := by omega
      have S1 := SP.out c wr
      rw [show ((c.toNat : Int)).toNat.toUInt8 = c from by simp] at S1
      have hix := (idx_in c quotedL).1
      rw [quoted_in] at hix
      have HO := Lib.hid hO
      unfold quoteC at hsn
      cases q : (specialL.contains c || c.toNat == 46)
      · rw [q] at hix
        rw [q, if_neg (by simp)] at hsn
        generalize Lib.indexByte quotedL c = ix at *
        have S1 := Lib.hid S1
        have SN := Lib.hid hsn
        clear hsn hcl he hT hO q
        go_wp2_with fail
        refine (S1.out).mono ?_
        rintro e w1 ⟨rfl, rfl⟩
        go_wp2_with (at_builtin; refine wpList_append_own _ rfl (.tmp 18) (.tmp 22) 40 rfl w.heap.size 5 i0 (.int .u8 0) 1 1 Tryd.underlying40 HI.out HZ.out HZ1.out HZ2.out rfl (by decide) _ _ _ rfl (HO.out.alloc _) _ 1 1 [.int .u8 (c.toNat : Int)] rfl rfl ?b1 ?b2 ?b3 ?b4 ?b5 ?_)
        case b1 => intro j u hj; match j, hj with | 0, hj => simp at hj; subst hj; rw [Addr.add_lit]; simp
        case b2 => intro u hu; simp at hu; subst hu; rfl
        case b3 => unfold maxLen; omega
        case b4 => omega
        case b5 => have := hB.size; simp; omega
        intro vb wb hown' hgrow _
        have hBb : Below w.heap.size w wb := (hB.alloc hB.size _).grown hgrow (by have := hB.size; simp; omega) (fun q eq => by
          rcases HO.out.2 with ⟨rfl, _⟩ | ⟨g, cp, cur, rfl, hbg, _⟩
          · simp [Value.ownBlock] at eq
          · obtain rfl : g = q := by simpa [Value.ownBlock] using eq
            exact hbg)
        have HOb := Lib.hid hown'
        clear hown' hgrow
        go_wp2
        go_roundw
        case rel => exact ⟨k + 1, T ++ [c], by omega, by go_num, by rw [List.length_append, show byteCells (T ++ [c]) = byteCells T ++ [.int .u8 (c.toNat : Int)] by simp [byteCells]]; exact HOb.out, SN.out.symm, hBb⟩
        case measure => simp [RowKit.intOf]; omega
      · rw [q] at hix
        rw [q, if_pos rfl] at hsn
        generalize Lib.indexByte quotedL c = ix at *
        have S1 := Lib.hid S1
        have SN := Lib.hid hsn
        clear hsn hcl he hT hO q
        go_wp2_with fail
        refine (S1.out).mono ?_
        rintro e w1 ⟨rfl, rfl⟩
        go_wp2_with (at_builtin; refine wpList_append_own _ rfl (.tmp 15) (.tmp 16) 40 rfl w.heap.size 5 i0 (.int .u8 0) 1 1 Tryd.underlying40 HI.out HZ.out HZ1.out HZ2.out rfl (by decide) _ _ _ rfl (HO.out.alloc _) _ 1 1 [.int .u8 92] rfl rfl ?a1 ?a2 ?a3 ?a4 ?a5 ?_)
        case a1 => intro j u hj; match j, hj with | 0, hj => simp at hj; subst hj; rw [Addr.add_lit]; simp
        case a2 => intro u hu; simp at hu; subst hu; rfl
        case a3 => unfold maxLen; omega
        case a4 => omega
        case a5 => have := hB.size; simp; omega
        intro va wa hown' hgrow _
        have hBa : Below w.heap.size w wa := (hB.alloc hB.size _).grown hgrow (by have := hB.size; simp; omega) (fun q eq => by
          rcases HO.out.2 with ⟨rfl, _⟩ | ⟨g, cp, cur, rfl, hbg, _⟩
          · simp [Value.ownBlock] at eq
          · obtain rfl : g = q := by simpa [Value.ownBlock] using eq
            exact hbg)
        have HOa := Lib.hid hown'
        clear hown' hgrow
        go_wp2_with (at_builtin; refine wpList_append_own _ rfl (.tmp 18) (.tmp 22) 40 rfl w.heap.size 5 i0 (.int .u8 0) 1 1 Tryd.underlying40 HI.out HZ.out HZ1.out HZ2.out rfl (by decide) _ _ _ rfl (HOa.out.alloc _) _ 1 1 [.int .u8 (c.toNat : Int)] rfl rfl ?b1 ?b2 ?b3 ?b4 ?b5 ?_)
        case b1 => intro j u hj; match j, hj with | 0, hj => simp at hj; subst hj; rw [Addr.add_lit]; simp
        case b2 => intro u hu; simp at hu; subst hu; rfl
        case b3 => unfold maxLen; omega
        case b4 => omega
        case b5 => have := hBa.size; simp; omega
        intro vb wb hown' hgrow _
        have hBb : Below w.heap.size w wb := (hBa.alloc hBa.size _).grown hgrow (by have := hBa.size; simp; omega) (fun q eq => by
          rcases HOa.out.2 with ⟨rfl, _⟩ | ⟨g, cp, cur, rfl, hbg, _⟩
          · simp [Value.ownBlock] at eq
          · obtain rfl : g = q := by simpa [Value.ownBlock] using eq
            exact hbg)
        have HOb := Lib.hid hown'
        clear hown' hgrow
        go_wp2
        go_roundw
        case rel => exact ⟨k + 1, T ++ [92, c], by omega, by go_num, by rw [List.length_append, show byteCells (T ++ [92, c]) = byteCells T ++ [.int .u8 92, .int .u8 (c.toNat : Int)] by simp [byteCells]]; exact HOb.out, SN.out.symm, hBb⟩
        case measure => simp [RowKit.intOf]; omega
    · obtain rfl : k = l.length := by omega
      rw [List.take_length] at hT
      have HT := Lib.hid hT
      have hC := str_of_row (P := Tryd.prog) (src := 40) (dst := 9) hO Tryd.underlying40 Tryd.underlying5 Tryd.underlying9
      have HC := Lib.hid hC
      clear hT hO
      go_wp2
      go_ret
      exact ⟨by rw [HT.out]; rfl, hB⟩
end Go.Proofs.YtcfdpbbpdnpnnaaDoor
