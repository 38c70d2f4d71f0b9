/- belfrylaw3.Good; belfrylaw3.LabelShards. -/
import Derived.Test.YtmcmgmpgmbljiaaDoorRefK
import Derived.Test.YtmcmgmpgmbljiaaDoorKnownW
namespace Go.Proofs.YtmcmgmpgmbljiaaDoor
open Go Go.Proofs Go.RowKit Go.Shelf
set_option maxRecDepth 100000
theorem good_no (a : Option Addr) (len cap : Nat) (zs : List Lab) (hlen : zs.length ≤ 9223372036854775807) (hbig : ∀ x ∈ zs, x.1.length ≤ 9223372036854775807 ∧ x.2.length ≤ 9223372036854775807) (hf : fewR zs = false) (n₀ : Nat) (w : World) (hI : LabsG n₀ w (.slice a len cap) zs) :
    Calls Tryd.prog 23 #[.slice a len cap] w fun e w' => e = .returned (.bool false) ∧ w = w' := by
  have F := few_any a len cap zs hlen hbig n₀ w hI
  rw [hf] at F
  have F := Lib.hid F
  clear hI
  go_enter Tryd.func23, Tryd.ntmps23
  go_wp2_with fail
  refine (F.out).mono ?_
  rintro e w1 ⟨rfl, rfl⟩
  go_wp2
  go_ret
  exact ⟨rfl, rfl⟩
theorem good_any (a : Option Addr) (len cap : Nat) (ss : List SLab) (hlen : ss.length ≤ 100) (hf : fewR (ss.map (·.1)) = true) (w : World) (hI : Labs w.heap.size w (.slice a len cap) ss) :
    Calls Tryd.prog 23 #[.slice a len cap] w fun e w' => e = .returned (.bool (checkR ss == 0)) ∧ Below w.heap.size w w' := by
  have F := few_any a len cap (ss.map (·.1)) (by rw [List.length_map]; omega) (fun x hx => by
    obtain ⟨y, _, rfl⟩ := List.mem_map.1 hx
    have := y.2
    unfold Short at this
    omega) w.heap.size w hI.toG
  rw [hf] at F
  have F := Lib.hid F
  have O := Lib.hid (of_any a len cap ss hlen w hI)
  obtain ⟨c, hc⟩ : ∃ c, checkR ss = c := ⟨_, rfl⟩
  rw [hc]
  have HQ := Lib.hid hc
  clear hI hc
  go_enter Tryd.func23, Tryd.ntmps23
  go_wp2_with fail
  refine (F.out).mono ?_
  rintro e w1 ⟨rfl, rfl⟩
  go_wp2_with fail
  refine (O.out).mono ?_
  rintro e w2 ⟨v, rfl, hr, hb⟩
  have L := labs_of_row9 hr
  have hsh : ∃ a len cap, v = .slice a len cap := by
    rcases L with ⟨⟨_, _, rfl⟩, _⟩ | ⟨b, off, cap, rfl, _⟩
    · exact ⟨_, _, _, rfl⟩
    · exact ⟨_, _, _, rfl⟩
  obtain ⟨a2, len2, cap2, rfl⟩ := hsh
  have C := rcheck_any a2 len2 cap2 ss hlen w2 L
  rw [HQ.out] at C
  have C := Lib.hid C
  clear hr L F O hf HQ
  go_wp2_with fail
  refine (C.out).mono ?_
  rintro e w3 ⟨rfl, hb3⟩
  go_wp2
  go_ret
  exact ⟨rfl, hb.trans (hb3.mono hb.size)⟩
set_option maxHeartbeats 4000000 in
theorem shards_law (a : Option Addr) (len cap : Nat) (zs : List Lab) (hlen : zs.length ≤ 9223372036854775807) (hbig : ∀ x ∈ zs, x.1.length ≤ 9223372036854775807 ∧ x.2.length ≤ 9223372036854775807) (n : Int) (hn : 0 ≤ n ∧ n ≤ 255) (w : World) (hI : LabsG w.heap.size w (.slice a len cap) zs) :
    Calls Tryd.prog 7 #[.slice a len cap, .int .u8 n] w fun e w' => e = .returned (.bool true) ∧ Below w.heap.size w w' := by
  have K := Lib.hid (known_any w)
  have later : ∀ {w1 : World}, Below w.heap.size w w1 → LabsG w1.heap.size w1 (.slice a len cap) zs := fun hb => by
    rcases hI.below hb with e | ⟨b, off, c, e, h1, h2⟩
    · exact .inl e
    · exact .inr ⟨b, off, c, e, Nat.lt_of_lt_of_le h1 hb.size, h2⟩
  cases hf : fewR zs
  · have LT := Lib.hid (fun (w1 : World) (hb : Below w.heap.size w w1) => good_no a len cap zs hlen hbig hf w1.heap.size w1 (later hb))
    clear later hI hbig
    go_enter Tryd.func7, Tryd.ntmps7
    go_wp2_with fail
    refine (K.out).mono ?_
    rintro e w1 ⟨rfl, hb1⟩
    go_wp2_with fail
    refine (LT.out _ hb1).mono ?_
    rintro e w2 ⟨rfl, rfl⟩
    go_wp2
    go_ret
    exact ⟨rfl, hb1⟩
  obtain ⟨ss, rfl, hss⟩ := few_short hf
  have LT := Lib.hid (fun (w1 : World) (hb : Below w.heap.size w w1) => (later hb).toS)
  have GD := Lib.hid (fun (w1 : World) (hb : Below w.heap.size w w1) => good_any a len cap ss (by omega) hf w1 (LT.out w1 hb))
  clear later hI hbig hlen hf
  by_cases hc : checkR ss = 0
  · have hc0 : (checkR ss == 0) = true := by rw [beq_iff_eq]; exact hc
    rw [hc0] at GD
    have PT := Lib.hid (fun W => parse_text ss hc W)
    have TX := Lib.hid (fun (w1 : World) (hb : Below w.heap.size w w1) => ltext_any a len cap ss (by omega) w1 (LT.out w1 hb))
    have SH := Lib.hid (fun (w1 : World) (hb : Below w.heap.size w w1) => shard_any a len cap ss (by omega) (1 + n) (by omega) w1 (LT.out w1 hb))
    have S1 := Lib.hid (fun (w1 : World) (hb : Below w.heap.size w w1) => shard_any a len cap ss (by omega) 1 (by omega) w1 (LT.out w1 hb))
    have HS := Lib.hid (fun (w1 : World) (hb : Below w.heap.size w w1) => hash_any a len cap ss (by omega) w1 (LT.out w1 hb))
    have XS := Lib.hid (fun (w1 : World) a2 len2 cap2 (hb : Labs w1.heap.size w1 (.slice a2 len2 cap2) ss) => shard_any a2 len2 cap2 ss (by omega) (1 + n) (by omega) w1 hb)
    have XH := Lib.hid (fun (w1 : World) a2 len2 cap2 (hb : Labs w1.heap.size w1 (.slice a2 len2 cap2) ss) => hash_any a2 len2 cap2 ss (by omega) w1 hb)
    have hh := hash_bd (textL ss)
    have et : (runS ss).1 ++ [125] = textL ss := rfl
    rw [et] at TX
    have e1 : shardI (textL ss) (1 + n) = hashI (textL ss) % (1 + n) := by unfold shardI; rw [if_neg (by omega)]
    have e2 : shardI (textL ss) 1 = 0 := by unfold shardI; rw [if_neg (by omega)]; omega
    rw [e1] at SH XS
    rw [e2] at S1
    clear e1 e2 et hc hc0
    generalize hashI (textL ss) = h at *
    generalize textL ss = T at *
    have q1 : 0 ≤ h % (1 + n) := Int.emod_nonneg _ (by omega)
    have q2 : h % (1 + n) < 1 + n := Int.emod_lt_of_pos _ (by omega)
    have EA : Hid (∃ av, h % (1 + n) = av) := ⟨_, rfl⟩
    obtain ⟨av, hav⟩ := EA.out
    rw [hav] at SH XS q1 q2
    have AV := Lib.hid hav
    clear hav EA
    have q3 : av < 18446744073709551616 := by omega
    go_enter Tryd.func7, Tryd.ntmps7
    go_wp2_with fail
    refine (K.out).mono ?_
    rintro e w1 ⟨rfl, B⟩
    go_wp2_with fail
    refine (GD.out _ B).mono ?_
    rintro e w2 ⟨rfl, hb⟩
    have B := below_then B hb
    clear hb
    go_wp2_with fail
    refine (TX.out _ B).mono ?_
    rintro e w3 ⟨rfl, hb⟩
    have B := below_then B hb
    clear hb
    go_wp2_with fail
    refine (PT.out _).mono ?_
    rintro e w4 ⟨v, rfl, P, hb⟩
    have B := below_then B hb
    clear hb
    have hsh : ∃ a len cap, v = .slice a len cap := by
      rcases P with ⟨⟨_, _, rfl⟩, _⟩ | ⟨b, off, cap, rfl, _⟩
      · exact ⟨_, _, _, rfl⟩
      · exact ⟨_, _, _, rfl⟩
    obtain ⟨ap, lp, cp, rfl⟩ := hsh
    go_wp2_with fail
    refine (SH.out _ B).mono ?_
    rintro e w5 ⟨rfl, hb⟩
    have P := labs_later P hb
    have B := below_then B hb
    clear hb
    go_wp2_with fail
    refine (XS.out _ _ _ _ P).mono ?_
    rintro e w6 ⟨rfl, hb⟩
    have P := labs_later P hb
    have B := below_then B hb
    clear hb
    go_wp2_with fail
    refine (XH.out _ _ _ _ P).mono ?_
    rintro e w7 ⟨rfl, hb⟩
    have B := below_then B hb
    clear hb P
    go_wp2_with fail
    refine (HS.out _ B).mono ?_
    rintro e w8 ⟨rfl, hb⟩
    have B := below_then B hb
    clear hb
    go_wp2_with fail
    refine (S1.out _ B).mono ?_
    rintro e w9 ⟨rfl, hb⟩
    have B := below_then B hb
    clear hb
    go_wp2_with fail
    refine (HS.out _ B).mono ?_
    rintro e w10 ⟨rfl, hb⟩
    have B := below_then B hb
    clear hb
    go_wp2_with fail
    go_ret
    exact ⟨by show Ending.returned (.bool (h % (1 + n) == av)) = _; rw [AV.out, beq_self_eq_true], B⟩
  · have hc0 : (checkR ss == 0) = false := by rw [beq_eq_false_iff_ne]; exact hc
    rw [hc0] at GD
    clear hc hc0
    go_enter Tryd.func7, Tryd.ntmps7
    go_wp2_with fail
    refine (K.out).mono ?_
    rintro e w1 ⟨rfl, hb1⟩
    go_wp2_with fail
    refine (GD.out _ hb1).mono ?_
    rintro e w2 ⟨rfl, hb2⟩
    go_wp2
    go_ret
    exact ⟨rfl, hb1.trans (hb2.mono hb1.size)⟩
end Go.Proofs.YtmcmgmpgmbljiaaDoor
