/- belfryref9: Quoted, Text, Same, Hash, Shard, Compare. -/
import Derived.Test.YtmcmgmpgmbljiaaDoorRefK
import Derived.Test.YtmcmgmpgmbljiaaDoorHash
import Derived.Test.YtmcmgmpgmbljiaaDoorCmp
import Derived.Test.YtmcmgmpgmbljiaaDoorBack
namespace Go.Proofs.YtmcmgmpgmbljiaaDoor
open Go Go.Proofs Go.RowKit Go.Shelf
set_option maxRecDepth 100000
theorem app_one (a : List UInt8) (s : ByteArray) (k : Nat) (hk : k < s.size) : ((⟨a.toArray⟩ : ByteArray) ++ s.extract k (k + 1)) = ⟨(a ++ [s[k]'hk]).toArray⟩ := by
  have e : (s.extract k (k + 1)).data.toList = [s[k]'hk] := by
    rw [Lib.extract_data, Nat.add_sub_cancel_left]
    have hd := Lib.data_getElem? s k hk
    obtain ⟨hn, he⟩ := List.getElem?_eq_some_iff.1 hd
    rw [List.drop_eq_getElem_cons hn, he]
    rfl
  have e2 : s.extract k (k + 1) = ⟨[s[k]'hk].toArray⟩ := bytes_mk _ _ e
  rw [e2]
  exact bapp a _
theorem app4 (a b c : List UInt8) : ((⟨a.toArray⟩ : ByteArray) ++ ⟨b.toArray⟩ ++ ⟨#[61]⟩ ++ ⟨c.toArray⟩) = ⟨(a ++ b ++ [61] ++ c).toArray⟩ := by
  rw [bapp a b, show ((⟨(a ++ b).toArray⟩ : ByteArray) ++ ⟨#[61]⟩) = ⟨(a ++ b ++ [61]).toArray⟩ from bapp (a ++ b) [61], bapp (a ++ b ++ [61]) c]
theorem quoted_at (s : ByteArray) (l : List UInt8) (hud : s.data.toList = l) (hl : l.length ≤ 1000) (w : World) :
    Calls Tryd.prog 42 #[.string s] w fun e w' => e = .returned (.string ⟨([34] ++ escR l ++ [34]).toArray⟩) ∧ w = w' := by
  have hsz : s.size = l.length := by rw [Lib.size_eq, hud]
  have HU := Lib.hid hud
  clear hud
  go_enter Tryd.func42, Tryd.ntmps42
  go_wp2
  go_loop [3, 4] (fun o i => ∃ (k : Nat) (T : List UInt8), k ≤ l.length ∧ i = .int .i64 (k : Int) ∧ o = .string ⟨T.toArray⟩ ∧ T = [34] ++ escR (l.take k)) (fun _ i => l.length - (intOf i).toNat)
  case atStart => exact ⟨0, [34], Nat.zero_le _, rfl, rfl, rfl⟩
  case round =>
    obtain ⟨k, T, hk, rfl, rfl, hT⟩ := hrel
    have hTl : T.length ≤ 3000 := by
      have := escR_len (l.take k)
      rw [List.length_take] at this
      rw [hT]; simp only [List.length_append, List.length_cons, List.length_nil]; omega
    by_cases hlt : k < l.length
    · have hi : k < s.size := by omega
      have app := app_one T s k hi
      have app2 := app_one (T ++ [92]) s k hi
      obtain ⟨c, hc⟩ : ∃ c : UInt8, s[k]'hi = c := ⟨_, rfl⟩
      have hcl : l[k]? = some c := by rw [← HU.out, ← hc]; exact Lib.data_getElem? s k hi
      obtain ⟨hn, he⟩ := List.getElem?_eq_some_iff.1 hcl
      have hsn : [34] ++ escR (l.take (k + 1)) = T ++ escC c := by rw [List.take_succ_eq_append_getElem hn, he, escR_snoc, hT]; simp
      rw [hc] at app app2
      have h0 : (0 : Int) ≤ (k : Int) := by omega
      have h1 : (k : Int) < (s.size : Int) := by omega
      have SN := Lib.hid hsn
      have AP := Lib.hid app
      have AP2 := Lib.hid app2
      clear hsn hcl he hT app app2
      by_cases q1 : c.toNat = 34
      · have d1 : ((c.toNat : Int) == 34) = true := by rw [beq_iff_eq]; omega
        go_wp2
        refine ⟨⟨k + 1, T ++ [92, c], by omega, by go_num, ?_, ?_⟩, by simp only [intOf]; omega⟩
        · rw [show ((⟨T.toArray⟩ : ByteArray) ++ ⟨#[92]⟩) = ⟨(T ++ [92]).toArray⟩ from bapp T [92], AP2.out]; simp
        · rw [SN.out]; unfold escC; rw [if_pos (by omega)]
      · have d1 : ((c.toNat : Int) == 34) = false := by rw [beq_eq_false_iff_ne]; omega
        by_cases q2 : c.toNat = 92
        · have d2 : ((c.toNat : Int) == 92) = true := by rw [beq_iff_eq]; omega
          go_wp2
          refine ⟨⟨k + 1, T ++ [92, c], by omega, by go_num, ?_, ?_⟩, by simp only [intOf]; omega⟩
          · rw [show ((⟨T.toArray⟩ : ByteArray) ++ ⟨#[92]⟩) = ⟨(T ++ [92]).toArray⟩ from bapp T [92], AP2.out]; simp
          · rw [SN.out]; unfold escC; rw [if_pos (by omega)]
        · have d2 : ((c.toNat : Int) == 92) = false := by rw [beq_eq_false_iff_ne]; omega
          go_wp2
          refine ⟨⟨k + 1, T ++ [c], by omega, by go_num, ?_, ?_⟩, by simp only [intOf]; omega⟩
          · rw [AP.out]
          · rw [SN.out]; unfold escC; rw [if_neg (by omega)]
    · obtain rfl : k = l.length := by omega
      have h1 : ¬ (l.length : Int) < (s.size : Int) := by omega
      rw [List.take_length] at hT
      have HT := Lib.hid hT
      clear hT
      go_wp2
      go_ret
      refine ⟨?_, rfl⟩
      show Ending.returned (.string ((⟨T.toArray⟩ : ByteArray) ++ ⟨#[34]⟩)) = _
      rw [show ((⟨T.toArray⟩ : ByteArray) ++ ⟨#[34]⟩) = ⟨(T ++ [34]).toArray⟩ from bapp T [34], HT.out]
      rfl
/-- the reference's Text of labels in memory -/
theorem run_snd (pre : List SLab) : (runS pre).2 = if pre = [] then [] else [44] := by
  rcases List.eq_nil_or_concat pre with rfl | ⟨q, x, rfl⟩
  · rfl
  · rw [List.concat_eq_append, runS_snoc, if_neg (by simp)]
set_option maxHeartbeats 4000000 in
theorem rtext_any (a : Option Addr) (len cap : Nat) (zs : List SLab) (hlen : zs.length ≤ 100) (w : World) (hI : Labs w.heap.size w (.slice a len cap) zs) :
    Calls Tryd.prog 15 #[.slice a len cap] w fun e w' => e = .returned (.string ⟨(textL zs).toArray⟩) ∧ Below w.heap.size w w' := by
  obtain rfl : len = zs.length := hI.len
  have HI := Lib.hid hI
  clear hI
  go_enter Tryd.func15, Tryd.ntmps15
  go_wp2
  go_loopw [3, 4] (fun o i wr => ∃ (k : Nat) (T : List UInt8), k ≤ zs.length ∧ i = .int .i64 (k : Int) ∧ o = .string ⟨T.toArray⟩ ∧ T = (runS (zs.take k)).1 ∧ Below w.heap.size w wr) (fun _ i _ => zs.length - (intOf i).toNat)
  case atStart => exact ⟨0, [123], Nat.zero_le _, rfl, rfl, rfl, Below.refl _ _⟩
  case round =>
    obtain ⟨k, T, hk, rfl, rfl, hT, hB⟩ := hrel
    have hTl : T.length ≤ 60401 := by
      have := (runS_len (zs.take k)).1
      rw [List.length_take] at this
      rw [hT]; omega
    by_cases hlt : k < zs.length
    · obtain ⟨x, hx⟩ : ∃ x, zs[k]? = some x := ⟨_, List.getElem?_eq_getElem hlt⟩
      obtain ⟨hn, he⟩ := List.getElem?_eq_some_iff.1 hx
      have hsn : (runS (zs.take (k + 1))).1 = T ++ (runS (zs.take k)).2 ++ labT x.1 := by rw [List.take_succ_eq_append_getElem hn, he, runS_snoc, hT]
      rw [run_snd] at hsn
      rcases HI.out.below hB with ⟨_, rfl⟩ | ⟨b, off, c, e, hb, hc⟩
      · simp at hlt
      obtain ⟨rfl, rfl⟩ : a = some ⟨b, off, none⟩ ∧ cap = c := by simpa using e
      obtain ⟨c0, c1⟩ := hc k x hx
      obtain ⟨⟨xn, xv⟩, hx0⟩ := x
      have hx1 : xn.length ≤ 200 := hx0.1
      have hx2 : xv.length ≤ 200 := hx0.2
      dsimp only at c0 c1 hsn
      have h0 : (0 : Int) ≤ (k : Int) := by omega
      have h1 : (k : Int) < (zs.length : Int) := by omega
      have QQ := Lib.hid (fun W => (quoted_at ⟨xv.toArray⟩ xv rfl (by omega) W).mono (R' := fun e w' => e = .returned (.string ⟨([34] ++ escR xv ++ [34]).toArray⟩) ∧ w' = W) (fun _ _ h => ⟨h.1, h.2.symm⟩))
      have hq := escR_len xv
      have HQ : ([34] ++ escR xv ++ [34]).length ≤ 402 := by simp only [List.length_append, List.length_cons, List.length_nil]; omega
      have eqt : ∀ P : List UInt8, P ++ labT (xn, xv) = P ++ xn ++ [61] ++ ([34] ++ escR xv ++ [34]) := fun P => by unfold labT; simp
      have EQT := Lib.hid eqt
      have SN := Lib.hid hsn
      generalize [34] ++ escR xv ++ [34] = Q at *
      clear e hc hx he hsn hT hq eqt
      by_cases hk0 : k = 0
      · have d0 : decide ((0 : Int) < (k : Int)) = false := by rw [decide_eq_false_iff_not]; omega
        have d1 : decide (0 < k) = false := by rw [decide_eq_false_iff_not]; omega
        have d2 : ¬ 0 < k := by omega
        have SN2 : Hid ((runS (zs.take (k + 1))).1 = T ++ xn ++ [61] ++ Q) := by
          unfold Hid
          rw [SN.out, if_pos (by rw [hk0]; rfl), List.append_nil, EQT.out]
        clear SN hk0 EQT
        go_wp2
        go_quiet ((go_at_call 42; exact Calls.quiet_of_same (QQ.out _)))
        have hB2 : Below w.heap.size w (wr.drewN nq) := below_dN hB nq
        go_wp2
        go_roundw
        case rel => exact ⟨k + 1, T ++ xn ++ [61] ++ Q, by omega, by go_num, by rw [app4], SN2.out.symm, hB2⟩
        case measure => simp [intOf]; omega
      · have d0 : decide ((0 : Int) < (k : Int)) = true := by rw [decide_eq_true_eq]; omega
        have d1 : decide (0 < k) = true := by rw [decide_eq_true_eq]; omega
        have d2 : 0 < k := by omega
        have SN2 : Hid ((runS (zs.take (k + 1))).1 = T ++ [44] ++ xn ++ [61] ++ Q) := by
          unfold Hid
          rw [SN.out, if_neg (by
            intro e
            have hz : (zs.take k).length = 0 := by rw [e]; rfl
            rw [List.length_take] at hz
            omega), EQT.out]
        clear SN hk0 EQT
        go_wp2
        go_quiet ((go_at_call 42; exact Calls.quiet_of_same (QQ.out _)))
        have hB2 : Below w.heap.size w (wr.drewN nq) := below_dN hB nq
        go_wp2
        go_roundw
        case rel => exact ⟨k + 1, T ++ [44] ++ xn ++ [61] ++ Q, by omega, by go_num, by rw [show ((⟨T.toArray⟩ : ByteArray) ++ ⟨#[44]⟩) = ⟨(T ++ [44]).toArray⟩ from bapp T [44], app4], SN2.out.symm, hB2⟩
        case measure => simp [intOf]; omega
    · obtain rfl : k = zs.length := by omega
      rw [List.take_length] at hT
      have HT := Lib.hid hT
      clear hT
      go_wp2
      go_ret
      refine ⟨?_, hB⟩
      show Ending.returned (.string ((⟨T.toArray⟩ : ByteArray) ++ ⟨#[125]⟩)) = _
      rw [show ((⟨T.toArray⟩ : ByteArray) ++ ⟨#[125]⟩) = ⟨(T ++ [125]).toArray⟩ from bapp T [125], HT.out]
      rfl
set_option maxHeartbeats 1000000 in
theorem rhash_any (a : Option Addr) (len cap : Nat) (zs : List SLab) (hlen : zs.length ≤ 100) (w : World) (hI : Labs w.heap.size w (.slice a len cap) zs) :
    Calls Tryd.prog 18 #[.slice a len cap] w fun e w' => e = .returned (.int .u64 (hashI (textL zs))) ∧ Below w.heap.size w w' := by
  have T := Lib.hid (rtext_any a len cap zs hlen w hI)
  have hl := text_len zs hlen
  generalize textL zs = L at *
  obtain ⟨s, hs⟩ : ∃ s : ByteArray, s = ⟨L.toArray⟩ := ⟨_, rfl⟩
  have hud : s.data.toList = L := by rw [hs]
  have hsz : s.size = L.length := by rw [Lib.size_eq, hud]
  rw [← hs] at T
  have HU := Lib.hid hud
  clear hI hs hud
  go_enter Tryd.func18, Tryd.ntmps18
  go_wp2_with fail
  refine (T.out).mono ?_
  rintro e w1 ⟨rfl, hb1⟩
  go_wp2
  go_loop [3, 5] (fun h i => ∃ k : Nat, k ≤ L.length ∧ i = .int .i64 (k : Int) ∧ h = .int .u64 (hashI (L.take k))) (fun _ i => L.length - (intOf i).toNat)
  case atStart => exact ⟨0, Nat.zero_le _, rfl, rfl⟩
  case round =>
    obtain ⟨k, hk, rfl, rfl⟩ := hrel
    by_cases hlt : k < L.length
    · have hi : k < s.size := by omega
      obtain ⟨c, hc⟩ : ∃ c : UInt8, s[k]'hi = c := ⟨_, rfl⟩
      have hcl : L[k]? = some c := by rw [← HU.out, ← hc]; exact Lib.data_getElem? s k hi
      have h1 : (0 : Int) ≤ (k : Int) := by omega
      have h2 : (k : Int) < (s.size : Int) := by omega
      have hc0 : (0 : Int) ≤ (c.toNat : Int) := by omega
      have hcb := c.toNat_lt
      have hc1 : (c.toNat : Int) ≤ 255 := by omega
      have wc : IntKind.u64.wrap (c.toNat : Int) = (c.toNat : Int) := by rw [IntKind.wrap_u64]; omega
      have hst : hashI (L.take (k + 1)) = hStep (hashI (L.take k)) c := by
        obtain ⟨hn, he⟩ := List.getElem?_eq_some_iff.1 hcl
        rw [List.take_succ_eq_append_getElem hn, he]
        unfold hashI
        rw [List.foldl_append]
        rfl
      have HS := Lib.hid hst
      clear hst hcl
      go_wp2
      go_round
      case rel => exact ⟨k + 1, by omega, by go_num, by rw [HS.out]; rfl⟩
      case measure => simp [intOf]; omega
    · obtain rfl : k = L.length := by omega
      have h2 : ¬ (L.length : Int) < (s.size : Int) := by omega
      rw [List.take_length]
      go_wp2
      go_ret
      exact ⟨rfl, hb1⟩
theorem rsame_any (a1 a2 : Option Addr) (n1 c1 n2 c2 : Nat) (x y : List SLab) (hx : x.length ≤ 100) (hy : y.length ≤ 100) (w : World) (h1 : Labs w.heap.size w (.slice a1 n1 c1) x) (h2 : Labs w.heap.size w (.slice a2 n2 c2) y) :
    Calls Tryd.prog 16 #[.slice a1 n1 c1, .slice a2 n2 c2] w fun e w' => e = .returned (.bool (textL x == textL y && ((x.length : Int) == (y.length : Int)))) ∧ Below w.heap.size w w' := by
  obtain rfl : n1 = x.length := h1.len
  obtain rfl : n2 = y.length := h2.len
  have T1 := Lib.hid (rtext_any a1 x.length c1 x hx w h1)
  have T2 := Lib.hid (fun (W : World) (hb : Below w.heap.size w W) => rtext_any a2 y.length c2 y hy W (by
    rcases h2.below hb with e | ⟨b, off, cap, e, g1, g2⟩
    · exact .inl e
    · exact .inr ⟨b, off, cap, e, Nat.lt_of_lt_of_le g1 hb.size, g2⟩))
  clear h1 h2
  generalize textL x = p at *
  generalize textL y = q at *
  have ep : ByteArray.toList ⟨p.toArray⟩ = p := by rw [ByteArray.toList_eq]
  have eq : ByteArray.toList ⟨q.toArray⟩ = q := by rw [ByteArray.toList_eq]
  have hB0 := Below.refl w.heap.size w
  cases hpq : (p == q)
  · go_enter Tryd.func16, Tryd.ntmps16
    go_wp2_with fail
    refine (T1.out).mono ?_
    rintro e w1 ⟨rfl, hb1⟩
    go_wp2_with fail
    refine (T2.out _ hb1).mono ?_
    rintro e w2 ⟨rfl, hb2⟩
    go_wp2
    go_ret
    exact ⟨rfl, hb1.trans (hb2.mono hb1.size)⟩
  · go_enter Tryd.func16, Tryd.ntmps16
    go_wp2_with fail
    refine (T1.out).mono ?_
    rintro e w1 ⟨rfl, hb1⟩
    go_wp2_with fail
    refine (T2.out _ hb1).mono ?_
    rintro e w2 ⟨rfl, hb2⟩
    go_wp2
    go_ret
    exact ⟨rfl, hb1.trans (hb2.mono hb1.size)⟩
theorem rshard_any (a : Option Addr) (len cap : Nat) (zs : List SLab) (hreach : zs.length ≤ 100) (n : Int) (hn : -9223372036854775808 ≤ n ∧ n ≤ 9223372036854775807) (w : World) (hI : Labs w.heap.size w (.slice a len cap) zs) :
    Calls Tryd.prog 20 #[.slice a len cap, .int .i64 n] w fun e w' => e = .returned (.int .i64 (shardI (textL zs) n)) ∧ Below w.heap.size w w' := by
  have H := Lib.hid (rhash_any a len cap zs hreach w hI)
  obtain ⟨b0, b1⟩ := hash_bd (textL zs)
  unfold shardI
  by_cases h : n < 1
  · rw [if_pos h]
    go_enter Tryd.func20, Tryd.ntmps20
    go_wp2
    go_ret
    exact ⟨rfl, Below.refl _ _⟩
  · rw [if_neg h]
    have e1 : IntKind.u64.wrap n = n := by rw [IntKind.wrap_u64]; omega
    generalize hashI (textL zs) = x at *
    have e2 : x.tmod n = x % n := Int.tmod_eq_emod_of_nonneg b0
    have h5 : 0 ≤ x % n := Int.emod_nonneg _ (by omega)
    have h6 : x % n < n := Int.emod_lt_of_pos _ (by omega)
    have e3 : IntKind.i64.wrap (x % n) = x % n := by rw [IntKind.wrap_i64]; omega
    have e4 : ¬ n = 0 := by omega
    have e5 : (n == 0) = false := by rw [beq_eq_false_iff_ne]; exact e4
    have e6 : IntKind.u64.wrap (x % n) = x % n := by rw [IntKind.wrap_u64]; omega
    clear hI
    go_enter Tryd.func20, Tryd.ntmps20
    go_wp2_with fail
    refine H.out.mono ?_
    rintro e w1 ⟨rfl, hb1⟩
    go_wp2
    go_ret
    exact ⟨rfl, hb1⟩
end Go.Proofs.YtmcmgmpgmbljiaaDoor
