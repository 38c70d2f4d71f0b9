/- belfryref9: Get. -/
import Derived.Test.YthdoniefjmphaaaGreatDoorCheck
namespace Go.Proofs.YthdoniefjmphaaaGreatDoor
open Go Go.Proofs Go.RowKit Go.Shelf
set_option maxRecDepth 100000
set_option maxHeartbeats 1000000 in
theorem rget_any (a : Option Addr) (len cap : Nat) (zs : List SLab) (hlen : zs.length ≤ 100) (n : List UInt8) (n₀ : Nat) (w : World) (hI : Labs n₀ w (.slice a len cap) zs) :
  Calls Tryz.prog 33 #[.slice a len cap, .string ⟨n.toArray⟩] w fun e w' => e = .returned (.string ⟨(getR n zs).toArray⟩) ∧ w = w' := by
 obtain rfl : len = zs.length := hI.len;have HI := Lib.hid hI;clear hI;have eb : (⟨n.toArray⟩ : ByteArray).toList = n := by rw [ByteArray.toList_eq]
 go_enter Tryz.func33, Tryz.ntmps33
 go_wp2
 go_loop [5] (fun i => ∃ k : Nat, k ≤ zs.length ∧ i = .int .i64 (k : Int) ∧ ∀ y ∈ zs.take k, y.1.1 ≠ n) (fun i => zs.length - (intOf i).toNat)
 case atStart => exact ⟨0, Nat.zero_le _, rfl, fun y hy => absurd hy (by simp)⟩
 case round =>
  obtain ⟨k, hk, rfl, hP⟩ := hrel;by_cases hlt : k < zs.length
  ·
   obtain ⟨x, hx⟩ : ∃ x, zs[k]? = some x := ⟨_, List.getElem?_eq_getElem hlt⟩;obtain ⟨hn, he⟩ := List.getElem?_eq_some_iff.1 hx;have hsn : zs.take (k + 1) = zs.take k ++ [x] := by rw [List.take_succ_eq_append_getElem hn, he]
   have hpre : zs.take k ++ [x] <+: zs := by rw [← hsn]; exact List.take_prefix _ _
   rcases HI.out with ⟨_, rfl⟩ | ⟨b, off, c, e, hb, hc⟩
   ·
    simp at hlt
   obtain ⟨rfl, rfl⟩ : a = some ⟨b, off, none⟩ ∧ cap = c := by simpa using e
   obtain ⟨c0, c1⟩ := hc k x hx;have h0 : (0 : Int) ≤ (k : Int) := by omega
   have h1 : (k : Int) < (zs.length : Int) := by omega
   have ea : (⟨x.1.1.toArray⟩ : ByteArray).toList = x.1.1 := by rw [ByteArray.toList_eq]
   by_cases q : x.1.1 = n
   ·
    have ex : getR n zs = x.1.2 := by rw [← get_pre n _ x zs hP q hpre, get_hit n _ x hP q]
    have q1 : (x.1.1 == n) = true := by rw [beq_iff_eq]; exact q
    have EX := Lib.hid ex;clear e hc hx hP he hsn hpre ex q;go_wp2
    go_ret
    exact ⟨by rw [EX.out]; rfl, rfl⟩
   ·
    have q1 : (x.1.1 == n) = false := by rw [beq_eq_false_iff_ne]; exact q
    have NX : Hid (∀ y ∈ zs.take (k + 1), y.1.1 ≠ n) := fun y hy => by
     rw [hsn] at hy;rcases List.mem_append.1 hy with h | h
     ·
      exact hP y h
     ·
      rw [List.mem_singleton.1 h]; exact q
    clear e hc hx hP he hsn hpre q;go_wp2
    go_round
    case rel => exact ⟨k + 1, by omega, by go_num, NX.out⟩
    case measure => simp [intOf]; omega
  ·
   obtain rfl : k = zs.length := by omega
   rw [List.take_length] at hP;have EX := Lib.hid (get_none n zs hP);clear hP;go_wp2
   go_ret
   exact ⟨by rw [EX.out]; rfl, rfl⟩
end Go.Proofs.YthdoniefjmphaaaGreatDoor
