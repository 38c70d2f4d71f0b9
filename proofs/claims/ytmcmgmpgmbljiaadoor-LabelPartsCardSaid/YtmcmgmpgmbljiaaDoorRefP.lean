/- belfryref9: Get, Among, Only, Without. -/
import Derived.Test.YtmcmgmpgmbljiaaDoorRefK
import Derived.Test.YtmcmgmpgmbljiaaDoorGet
import Derived.Test.YtmcmgmpgmbljiaaDoorFewN
namespace Go.Proofs.YtmcmgmpgmbljiaaDoor
open Go Go.Proofs Go.RowKit Go.Shelf
set_option maxRecDepth 100000
set_option maxHeartbeats 1000000 in
theorem rget_any (a : Option Addr) (len cap : Nat) (zs : List SLab) (hlen : zs.length ≤ 100) (n : List UInt8) (n₀ : Nat) (w : World) (hI : Labs n₀ w (.slice a len cap) zs) :
    Calls Tryd.prog 26 #[.slice a len cap, .string ⟨n.toArray⟩] w fun e w' => e = .returned (.string ⟨(getR n zs).toArray⟩) ∧ w = w' := by
  obtain rfl : len = zs.length := hI.len
  have HI := Lib.hid hI
  clear hI
  have eb : (⟨n.toArray⟩ : ByteArray).toList = n := by rw [ByteArray.toList_eq]
  go_enter Tryd.func26, Tryd.ntmps26
  go_wp2
  go_loop [5] (fun i => ∃ k : Nat, k ≤ zs.length ∧ i = .int .i64 (k : Int) ∧ ∀ y ∈ zs.take k, y.1.1 ≠ n) (fun i => zs.length - (intOf i).toNat)
  case atStart => exact ⟨0, Nat.zero_le _, rfl, fun y hy => absurd hy (by simp)⟩
  case round =>
    obtain ⟨k, hk, rfl, hP⟩ := hrel
    by_cases hlt : k < zs.length
    · obtain ⟨x, hx⟩ : ∃ x, zs[k]? = some x := ⟨_, List.getElem?_eq_getElem hlt⟩
      obtain ⟨hn, he⟩ := List.getElem?_eq_some_iff.1 hx
      have hsn : zs.take (k + 1) = zs.take k ++ [x] := by rw [List.take_succ_eq_append_getElem hn, he]
      have hpre : zs.take k ++ [x] <+: zs := by rw [← hsn]; exact List.take_prefix _ _
      rcases HI.out with ⟨_, rfl⟩ | ⟨b, off, c, e, hb, hc⟩
      · simp at hlt
      obtain ⟨rfl, rfl⟩ : a = some ⟨b, off, none⟩ ∧ cap = c := by simpa using e
      obtain ⟨c0, c1⟩ := hc k x hx
      have h0 : (0 : Int) ≤ (k : Int) := by omega
      have h1 : (k : Int) < (zs.length : Int) := by omega
      have ea : (⟨x.1.1.toArray⟩ : ByteArray).toList = x.1.1 := by rw [ByteArray.toList_eq]
      by_cases q : x.1.1 = n
      · have ex : getR n zs = x.1.2 := by rw [← get_pre n _ x zs hP q hpre, get_hit n _ x hP q]
        have q1 : (x.1.1 == n) = true := by rw [beq_iff_eq]; exact q
        have EX := Lib.hid ex
        clear e hc hx hP he hsn hpre ex q
        go_wp2
        go_ret
        exact ⟨by rw [EX.out]; rfl, rfl⟩
      · have q1 : (x.1.1 == n) = false := by rw [beq_eq_false_iff_ne]; exact q
        have NX : Hid (∀ y ∈ zs.take (k + 1), y.1.1 ≠ n) := fun y hy => by
          rw [hsn] at hy
          rcases List.mem_append.1 hy with h | h
          · exact hP y h
          · rw [List.mem_singleton.1 h]; exact q
        clear e hc hx hP he hsn hpre q
        go_wp2
        go_round
        case rel => exact ⟨k + 1, by omega, by go_num, NX.out⟩
        case measure => simp [intOf]; omega
    · obtain rfl : k = zs.length := by omega
      rw [List.take_length] at hP
      have EX := Lib.hid (get_none n zs hP)
      clear hP
      go_wp2
      go_ret
      exact ⟨by rw [EX.out]; rfl, rfl⟩
set_option maxHeartbeats 1000000 in
theorem among_any (a : Option Addr) (len cap : Nat) (ns : List (List UInt8)) (n : List UInt8) (n₀ : Nat) (w : World) (hI : Names n₀ w (.slice a len cap) ns) :
    Calls Tryd.prog 46 #[.slice a len cap, .string ⟨n.toArray⟩] w fun e w' => e = .returned (.bool (ns.contains n)) ∧ w = w' := by
  obtain rfl : len = ns.length := by
    rcases hI with ⟨_, _, e, rfl⟩ | ⟨b, off, c, e, _⟩
    · injection e
    · injection e
  have hlen : ns.length ≤ 1000 := by
    rcases hI with ⟨_, _, e, rfl⟩ | ⟨b, off, c, e, _, h, _⟩
    · simp
    · exact h
  have HI := Lib.hid hI
  clear hI
  obtain ⟨R, hR⟩ : ∃ R, ns.contains n = R := ⟨_, rfl⟩
  rw [hR]
  have HR := Lib.hid hR
  clear hR
  have eb : (⟨n.toArray⟩ : ByteArray).toList = n := by rw [ByteArray.toList_eq]
  go_enter Tryd.func46, Tryd.ntmps46
  go_wp2
  go_loop [5] (fun i => ∃ k : Nat, k ≤ ns.length ∧ i = .int .i64 (k : Int) ∧ (ns.take k).contains n = false) (fun i => ns.length - (intOf i).toNat)
  case atStart => exact ⟨0, Nat.zero_le _, rfl, rfl⟩
  case round =>
    obtain ⟨k, hk, rfl, hP⟩ := hrel
    by_cases hlt : k < ns.length
    · obtain ⟨x, hx⟩ : ∃ x, ns[k]? = some x := ⟨_, List.getElem?_eq_getElem hlt⟩
      obtain ⟨hn, he⟩ := List.getElem?_eq_some_iff.1 hx
      have hsn : ns.take (k + 1) = ns.take k ++ [x] := by rw [List.take_succ_eq_append_getElem hn, he]
      have hm := List.mem_of_getElem? hx
      rcases HI.out with ⟨_, _, _, rfl⟩ | ⟨b, off, c, e, hb, _, hc⟩
      · simp at hlt
      obtain ⟨rfl, rfl⟩ : a = some ⟨b, off, none⟩ ∧ cap = c := by simpa using e
      have c0 := hc k x hx
      have h0 : (0 : Int) ≤ (k : Int) := by omega
      have h1 : (k : Int) < (ns.length : Int) := by omega
      have ea : (⟨x.toArray⟩ : ByteArray).toList = x := by rw [ByteArray.toList_eq]
      by_cases q : x = n
      · have EX : Hid (R = true) := by unfold Hid; rw [← HR.out]; exact List.contains_iff_mem.2 (by rw [← q]; exact hm)
        have q1 : (x == n) = true := by rw [beq_iff_eq]; exact q
        clear e hc hx hP he hsn hm q
        go_wp2
        go_ret
        exact ⟨by rw [EX.out]; rfl, rfl⟩
      · have q1 : (x == n) = false := by rw [beq_eq_false_iff_ne]; exact q
        have NX : Hid ((ns.take (k + 1)).contains n = false) := by
          unfold Hid
          cases h : (ns.take (k + 1)).contains n
          · rfl
          · exfalso
            rw [hsn, List.contains_iff_mem, List.mem_append] at h
            rcases h with h | h
            · rw [List.contains_iff_mem.2 h] at hP; cases hP
            · exact q (List.mem_singleton.1 h).symm
        clear e hc hx hP he hsn hm q
        go_wp2
        go_round
        case rel => exact ⟨k + 1, by omega, by go_num, NX.out⟩
        case measure => simp [intOf]; omega
    · obtain rfl : k = ns.length := by omega
      rw [List.take_length, HR.out] at hP
      have EX := Lib.hid hP
      clear hP
      go_wp2
      go_ret
      exact ⟨by rw [EX.out]; rfl, rfl⟩
set_option maxHeartbeats 4000000 in
theorem ronly_any (a na : Option Addr) (len cap nl nc : Nat) (ns : List (List UInt8)) (zs : List SLab) (hlen : zs.length ≤ 100) (w : World) (hI : Labs w.heap.size w (.slice a len cap) zs) (hN : Names w.heap.size w (.slice na nl nc) ns) :
    Calls Tryd.prog 28 #[.slice a len cap, .slice na nl nc] w (NewR w (zs.filter (keepB ns true))) := by
  obtain ⟨i0, hi, hz0, hz1, hz2⟩ := info_parts info_rlab
  have HI0 := Lib.hid hi
  have HZ := Lib.hid hz0
  have HZ1 := Lib.hid hz1
  have HZ2 := Lib.hid hz2
  clear hi hz0 hz1 hz2
  obtain rfl : len = zs.length := hI.len
  have HI := Lib.hid hI
  have AM := Lib.hid (fun n (W : World) (hb : Below w.heap.size w W) => among_any na nl nc ns n w.heap.size W (hN.below hb))
  clear hI hN
  go_enter Tryd.func28, Tryd.ntmps28
  go_wp2
  go_loopw [5, 6] (fun v i wr => ∃ k m : Nat, k ≤ zs.length ∧ i = .int .i64 (k : Int) ∧ m = ((zs.take k).filter (keepB ns true)).length ∧ wr.ownsRow w.heap.size 59 2 v m (labC ((zs.take k).filter (keepB ns true))) ∧ Below w.heap.size w wr) (fun _ i _ => zs.length - (intOf i).toNat)
  case atStart => exact ⟨0, 0, Nat.zero_le _, rfl, rfl, World.ownsRow_nil _ _ _ _, Below.refl _ _⟩
  case round =>
    obtain ⟨k, m, hk, rfl, hm, hO, hB⟩ := hrel
    have hml : m ≤ k := by
      have h1 := List.length_filter_le (keepB ns true) (zs.take k)
      rw [List.length_take] at h1
      omega
    by_cases hlt : k < zs.length
    · obtain ⟨x, hx⟩ : ∃ x, zs[k]? = some x := ⟨_, List.getElem?_eq_getElem hlt⟩
      obtain ⟨hn, he⟩ := List.getElem?_eq_some_iff.1 hx
      have hsn : (zs.take (k + 1)).filter (keepB ns true) = if keepB ns true x = true then (zs.take k).filter (keepB ns true) ++ [x] else (zs.take k).filter (keepB ns true) := by rw [List.take_succ_eq_append_getElem hn, he, filter_snoc]
      rcases HI.out.below hB with ⟨_, rfl⟩ | ⟨b, off, c, e, hb, hc⟩
      · simp at hlt
      obtain ⟨rfl, rfl⟩ : a = some ⟨b, off, none⟩ ∧ cap = c := by simpa using e
      obtain ⟨c0, c1⟩ := hc k x hx
      have h0 : (0 : Int) ≤ (k : Int) := by omega
      have h1 : (k : Int) < (zs.length : Int) := by omega
      have hkb : keepB ns true x = (ns.contains x.1.1 == true) := rfl
      rw [hkb] at hsn
      have A1 := AM.out x.1.1 wr hB
      clear hkb
      cases q : ns.contains x.1.1
      · rw [q] at hsn A1
        rw [if_neg (by simp)] at hsn
        have A1 := Lib.hid A1
        have SN := Lib.hid hsn
        have HO := Lib.hid hO
        have HM := Lib.hid hm
        clear e hc hx he hsn hO q hm
        go_wp2_with fail
        refine (A1.out).mono ?_
        rintro e w1 ⟨rfl, rfl⟩
        go_wp2
        go_roundw
        case rel => exact ⟨k + 1, m, by omega, by go_num, by rw [SN.out]; exact HM.out, by rw [SN.out]; exact HO.out, hB⟩
        case measure => simp [intOf]; omega
      · rw [q] at hsn A1
        rw [if_pos (by simp)] at hsn
        have A1 := Lib.hid A1
        have SN := Lib.hid hsn
        have HO := Lib.hid hO
        have HM := Lib.hid hm
        clear e hc hx he hsn hO q hm
        go_wp2_with fail
        refine (A1.out).mono ?_
        rintro e w1 ⟨rfl, rfl⟩
        go_wp2_with (at_builtin; refine wpList_append_own _ rfl _ _ 27 rfl w.heap.size 59 i0 (.agg #[.string ⟨#[]⟩, .string ⟨#[]⟩]) 2 32 Tryd.underlying27 HI0.out HZ.out HZ1.out HZ2.out rfl (by decide) _ m _ rfl (HO.out.alloc _) ⟨wr.heap.size, 0, none⟩ 1 1 [.string ⟨x.1.1.toArray⟩, .string ⟨x.1.2.toArray⟩] rfl rfl (cells2_new _ _ _ _) ?j1 ?j2 ?j3 ?j4 ?_)
        case j1 => intro u hu; simp at hu; rcases hu with rfl | rfl <;> rfl
        case j2 => unfold maxLen; omega
        case j3 => omega
        case j4 => have := hB.size; simp; omega
        · intro v' w1 hown' hgrow _
          have hB2 : Below w.heap.size w w1 := (hB.alloc hB.size _).grown hgrow (by have := hB.size; simp; omega) (fun q eq => by
            rcases HO.out.2 with ⟨rfl, _⟩ | ⟨g, cp, cur, rfl, hbg, _⟩
            · simp [Value.ownBlock] at eq
            · obtain rfl : g = q := by simpa [Value.ownBlock] using eq
              exact hbg)
          have HO2 := Lib.hid hown'
          clear hown' hgrow
          go_wp2
          go_roundw
          case rel => exact ⟨k + 1, m + 1, by omega, by go_num, by rw [SN.out, List.length_append, ← HM.out]; rfl, by rw [SN.out, labC_snoc]; exact HO2.out, hB2⟩
          case measure => simp [intOf]; omega
    · obtain rfl : k = zs.length := by omega
      rw [List.take_length] at hO hm
      rw [hm] at hO
      have HO := Lib.hid hO
      clear hO hm
      go_wp2
      go_ret
      exact ⟨_, rfl, HO.out, hB⟩
set_option maxHeartbeats 4000000 in
theorem rwithout_any (a na : Option Addr) (len cap nl nc : Nat) (ns : List (List UInt8)) (zs : List SLab) (hlen : zs.length ≤ 100) (w : World) (hI : Labs w.heap.size w (.slice a len cap) zs) (hN : Names w.heap.size w (.slice na nl nc) ns) :
    Calls Tryd.prog 30 #[.slice a len cap, .slice na nl nc] w (NewR w (zs.filter (keepB ns false))) := by
  obtain ⟨i0, hi, hz0, hz1, hz2⟩ := info_parts info_rlab
  have HI0 := Lib.hid hi
  have HZ := Lib.hid hz0
  have HZ1 := Lib.hid hz1
  have HZ2 := Lib.hid hz2
  clear hi hz0 hz1 hz2
  obtain rfl : len = zs.length := hI.len
  have HI := Lib.hid hI
  have AM := Lib.hid (fun n (W : World) (hb : Below w.heap.size w W) => among_any na nl nc ns n w.heap.size W (hN.below hb))
  clear hI hN
  go_enter Tryd.func30, Tryd.ntmps30
  go_wp2
  go_loopw [5, 6] (fun v i wr => ∃ k m : Nat, k ≤ zs.length ∧ i = .int .i64 (k : Int) ∧ m = ((zs.take k).filter (keepB ns false)).length ∧ wr.ownsRow w.heap.size 59 2 v m (labC ((zs.take k).filter (keepB ns false))) ∧ Below w.heap.size w wr) (fun _ i _ => zs.length - (intOf i).toNat)
  case atStart => exact ⟨0, 0, Nat.zero_le _, rfl, rfl, World.ownsRow_nil _ _ _ _, Below.refl _ _⟩
  case round =>
    obtain ⟨k, m, hk, rfl, hm, hO, hB⟩ := hrel
    have hml : m ≤ k := by
      have h1 := List.length_filter_le (keepB ns false) (zs.take k)
      rw [List.length_take] at h1
      omega
    by_cases hlt : k < zs.length
    · obtain ⟨x, hx⟩ : ∃ x, zs[k]? = some x := ⟨_, List.getElem?_eq_getElem hlt⟩
      obtain ⟨hn, he⟩ := List.getElem?_eq_some_iff.1 hx
      have hsn : (zs.take (k + 1)).filter (keepB ns false) = if keepB ns false x = true then (zs.take k).filter (keepB ns false) ++ [x] else (zs.take k).filter (keepB ns false) := by rw [List.take_succ_eq_append_getElem hn, he, filter_snoc]
      rcases HI.out.below hB with ⟨_, rfl⟩ | ⟨b, off, c, e, hb, hc⟩
      · simp at hlt
      obtain ⟨rfl, rfl⟩ : a = some ⟨b, off, none⟩ ∧ cap = c := by simpa using e
      obtain ⟨c0, c1⟩ := hc k x hx
      have h0 : (0 : Int) ≤ (k : Int) := by omega
      have h1 : (k : Int) < (zs.length : Int) := by omega
      have hkb : keepB ns false x = (ns.contains x.1.1 == false) := rfl
      rw [hkb] at hsn
      have A1 := AM.out x.1.1 wr hB
      clear hkb
      cases q : ns.contains x.1.1
      · rw [q] at hsn A1
        rw [if_pos (by simp)] at hsn
        have A1 := Lib.hid A1
        have SN := Lib.hid hsn
        have HO := Lib.hid hO
        have HM := Lib.hid hm
        clear e hc hx he hsn hO q hm
        go_wp2_with fail
        refine (A1.out).mono ?_
        rintro e w1 ⟨rfl, rfl⟩
        go_wp2_with (at_builtin; refine wpList_append_own _ rfl _ _ 27 rfl w.heap.size 59 i0 (.agg #[.string ⟨#[]⟩, .string ⟨#[]⟩]) 2 32 Tryd.underlying27 HI0.out HZ.out HZ1.out HZ2.out rfl (by decide) _ m _ rfl (HO.out.alloc _) ⟨wr.heap.size, 0, none⟩ 1 1 [.string ⟨x.1.1.toArray⟩, .string ⟨x.1.2.toArray⟩] rfl rfl (cells2_new _ _ _ _) ?j1 ?j2 ?j3 ?j4 ?_)
        case j1 => intro u hu; simp at hu; rcases hu with rfl | rfl <;> rfl
        case j2 => unfold maxLen; omega
        case j3 => omega
        case j4 => have := hB.size; simp; omega
        · intro v' w1 hown' hgrow _
          have hB2 : Below w.heap.size w w1 := (hB.alloc hB.size _).grown hgrow (by have := hB.size; simp; omega) (fun q eq => by
            rcases HO.out.2 with ⟨rfl, _⟩ | ⟨g, cp, cur, rfl, hbg, _⟩
            · simp [Value.ownBlock] at eq
            · obtain rfl : g = q := by simpa [Value.ownBlock] using eq
              exact hbg)
          have HO2 := Lib.hid hown'
          clear hown' hgrow
          go_wp2
          go_roundw
          case rel => exact ⟨k + 1, m + 1, by omega, by go_num, by rw [SN.out, List.length_append, ← HM.out]; rfl, by rw [SN.out, labC_snoc]; exact HO2.out, hB2⟩
          case measure => simp [intOf]; omega
      · rw [q] at hsn A1
        rw [if_neg (by simp)] at hsn
        have A1 := Lib.hid A1
        have SN := Lib.hid hsn
        have HO := Lib.hid hO
        have HM := Lib.hid hm
        clear e hc hx he hsn hO q hm
        go_wp2_with fail
        refine (A1.out).mono ?_
        rintro e w1 ⟨rfl, rfl⟩
        go_wp2
        go_roundw
        case rel => exact ⟨k + 1, m, by omega, by go_num, by rw [SN.out]; exact HM.out, by rw [SN.out]; exact HO.out, hB⟩
        case measure => simp [intOf]; omega
    · obtain rfl : k = zs.length := by omega
      rw [List.take_length] at hO hm
      rw [hm] at hO
      have HO := Lib.hid hO
      clear hO hm
      go_wp2
      go_ret
      exact ⟨_, rfl, HO.out, hB⟩
end Go.Proofs.YtmcmgmpgmbljiaaDoor
