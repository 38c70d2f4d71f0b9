/- label.Hash, Shard. -/
import Derived.Test.YtmcmgmpgmbljiaaDoorTxB
import Derived.Lib.AtoiErrMem
namespace Go.Proofs.YtmcmgmpgmbljiaaDoor
open Go Go.Proofs Go.RowKit Go.Shelf
set_option maxRecDepth 100000
def textL (zs : List SLab) : List UInt8 := (runS zs).1 ++ [125]
/-- FNV-1a, a byte more -/
def hStep (h : Int) (c : UInt8) : Int := IntKind.u64.wrap (bits BinOp.xor IntKind.u64 h (c.toNat : Int) * 1099511628211)
def hashI (l : List UInt8) : Int := l.foldl hStep 14695981039346656037
set_option maxHeartbeats 4000000 in
theorem hash_any (a : Option Addr) (len cap : Nat) (zs : List SLab) (hreach : zs.length ≤ 100) (w : World) (hI : Labs w.heap.size w (.slice a len cap) zs) :
    Calls Tryd.prog 17 #[.slice a len cap] w fun e w' => e = .returned (.int .u64 (hashI (textL zs))) ∧ Below w.heap.size w w' := by
  have hT := ltext_any a len cap zs hreach w hI
  have hm := (runS_len zs).1
  unfold textL
  obtain ⟨L, hL⟩ : ∃ L, (runS zs).1 ++ [125] = L := ⟨_, rfl⟩
  have hLl : L.length ≤ 70000 := by
    rw [← hL, List.length_append]
    simp only [List.length_cons, List.length_nil]
    omega
  rw [hL] at hT ⊢
  have T := Lib.hid hT
  clear hL hT hI hm
  go_enter Tryd.func17, Tryd.ntmps17
  go_wp2_with fail
  refine T.out.mono ?_
  rintro e w1 ⟨rfl, hb1⟩
  have hcv := Lib.run_convert_string_bytes (P := Tryd.prog) w1 9 74 5 ⟨L.toArray⟩ Tryd.underlying9 Tryd.underlying74 Tryd.underlying5
  obtain ⟨W1, hW1⟩ : ∃ W1, Lib.bytesWorld w1 5 ⟨L.toArray⟩ = W1 := ⟨_, rfl⟩
  have hcell : ∀ k c, L[k]? = some c → W1.cell? ⟨w1.heap.size, k, none⟩ = some (.int .u8 (c.toNat : Int)) := by
    intro k c hc
    obtain ⟨hk, he⟩ := List.getElem?_eq_some_iff.1 hc
    rw [← hW1, Lib.bytesWorld_cell w1 _ ⟨L.toArray⟩ k hk]
    simp [List.getD, hc]
  have hB1 : Below w.heap.size w W1 := by rw [← hW1]; exact hb1.trans ((Lib.bytesWorld_below _ _ _).mono hb1.size)
  rw [hW1] at hcv
  have HC := Lib.hid hcell
  clear hb1 hW1 hcell
  go_wp2
  go_loopw [3, 10] (fun h i wr => ∃ k : Nat, k ≤ L.length ∧ i = .int .i64 (k : Int) ∧ h = .int .u64 (hashI (L.take k)) ∧ wr = W1) (fun _ i _ => L.length - (intOf i).toNat)
  case atStart => exact ⟨0, Nat.zero_le _, rfl, rfl, rfl⟩
  case round =>
    obtain ⟨k, hk, rfl, rfl, rfl⟩ := hrel
    by_cases hlt : k < L.length
    · obtain ⟨c, hc⟩ : ∃ c, L[k]? = some c := ⟨_, List.getElem?_eq_getElem hlt⟩
      have c0 := HC.out k c hc
      have h1 : (0 : Int) ≤ (k : Int) := by omega
      have h2 : (k : Int) < (L.length : Int) := by omega
      have hc0 : (0 : Int) ≤ (c.toNat : Int) := by omega
      have hcl := c.toNat_lt
      have hc1 : (c.toNat : Int) ≤ 255 := by omega
      have wc : IntKind.u64.wrap (c.toNat : Int) = (c.toNat : Int) := by rw [IntKind.wrap_u64]; omega
      have hs : hashI (L.take (k + 1)) = hStep (hashI (L.take k)) c := by
        obtain ⟨hn, he⟩ := List.getElem?_eq_some_iff.1 hc
        rw [List.take_succ_eq_append_getElem hn, he]
        unfold hashI
        rw [List.foldl_append]
        rfl
      have HS := Lib.hid hs
      clear hs hc
      go_wp2
      go_roundw
      case rel => exact ⟨k + 1, by omega, by go_num, by rw [HS.out]; rfl, trivial⟩
      case measure => simp [intOf]; omega
    · obtain rfl : k = L.length := by omega
      rw [List.take_length]
      go_wp2
      go_ret
      exact ⟨rfl, hB1⟩
theorem step_nn (h : Int) (c : UInt8) : 0 ≤ hStep h c ∧ hStep h c < 18446744073709551616 := by
  unfold hStep; rw [IntKind.wrap_u64]; omega
theorem hash_bd (l : List UInt8) : 0 ≤ hashI l ∧ hashI l < 18446744073709551616 := by
  have g : ∀ (l : List UInt8) (h : Int), 0 ≤ h ∧ h < 18446744073709551616 → 0 ≤ l.foldl hStep h ∧ l.foldl hStep h < 18446744073709551616 := by
    intro l
    induction l with
    | nil => intro h hh; exact hh
    | cons c t ih => intro h _; rw [List.foldl_cons]; exact ih _ (step_nn h c)
  exact g l _ ⟨by omega, by omega⟩
def shardI (l : List UInt8) (n : Int) : Int := if n < 1 then 0 else hashI l % n
theorem shard_any (a : Option Addr) (len cap : Nat) (zs : List SLab) (hreach : zs.length ≤ 100) (n : Int) (hn : -9223372036854775808 ≤ n ∧ n ≤ 9223372036854775807) (w : World) (hI : Labs w.heap.size w (.slice a len cap) zs) :
    Calls Tryd.prog 19 #[.slice a len cap, .int .i64 n] w fun e w' => e = .returned (.int .i64 (shardI (textL zs) n)) ∧ Below w.heap.size w w' := by
  have H := Lib.hid (hash_any a len cap zs hreach w hI)
  obtain ⟨b0, b1⟩ := hash_bd (textL zs)
  unfold shardI
  by_cases h : n < 1
  · rw [if_pos h]
    go_enter Tryd.func19, Tryd.ntmps19
    go_wp2
    go_ret
    exact ⟨rfl, Below.refl _ _⟩
  · rw [if_neg h]
    have e1 : IntKind.u64.wrap n = n := by rw [IntKind.wrap_u64]; omega
    generalize hashI (textL zs) = x at *
    have e2 : x.tmod n = x % n := Int.tmod_eq_emod_of_nonneg b0
    have h5 : 0 ≤ x % n := Int.emod_nonneg _ (by omega)
    have h6 : x % n < n := Int.emod_lt_of_pos _ (by omega)
    have e3 : IntKind.i64.wrap (x % n) = x % n := by rw [IntKind.wrap_i64]; omega
    have e4 : ¬ n = 0 := by omega
    have e5 : (n == 0) = false := by rw [beq_eq_false_iff_ne]; exact e4
    have e6 : IntKind.u64.wrap (x % n) = x % n := by rw [IntKind.wrap_u64]; omega
    clear hI
    go_enter Tryd.func19, Tryd.ntmps19
    go_wp2_with fail
    refine H.out.mono ?_
    rintro e w1 ⟨rfl, hb1⟩
    go_wp2
    go_ret
    exact ⟨rfl, hb1⟩
end Go.Proofs.YtmcmgmpgmbljiaaDoor
