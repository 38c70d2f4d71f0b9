/- belfryref9: Quoted, Text, Same, Hash, Shard, Compare. -/
import Derived.Test.YtgldieboflmnhaaGreatDoorRefK
import Derived.Test.YtgldieboflmnhaaGreatDoorHash
import Derived.Test.YtgldieboflmnhaaGreatDoorCmp
import Derived.Test.YtgldieboflmnhaaGreatDoorBack
namespace Go.Proofs.YtgldieboflmnhaaGreatDoor
open Go Go.Proofs Go.RowKit Go.Shelf
set_option maxRecDepth 100000
theorem app_one (a : List UInt8) (s : ByteArray) (k : Nat) (hk : k < s.size) : ((⟨a.toArray⟩ : ByteArray) ++ s.extract k (k + 1)) = ⟨(a ++ [s[k]'hk]).toArray⟩ := by
  have e : (s.extract k (k + 1)).data.toList = [s[k]'hk] := by
    rw [Lib.extract_data, Nat.add_sub_cancel_left]
    have hd := Lib.data_getElem? s k hk
    obtain ⟨hn, he⟩ := List.getElem?_eq_some_iff.1 hd
    rw [List.drop_eq_getElem_cons hn, he]
    rfl
  have e2 : s.extract k (k + 1) = ⟨[s[k]'hk].toArray⟩ := bytes_mk _ _ e
  rw [e2]
  exact bapp a _
theorem app4 (a b c : List UInt8) : ((⟨a.toArray⟩ : ByteArray) ++ ⟨b.toArray⟩ ++ ⟨#[61]⟩ ++ ⟨c.toArray⟩) = ⟨(a ++ b ++ [61] ++ c).toArray⟩ := by
  rw [bapp a b, show ((⟨(a ++ b).toArray⟩ : ByteArray) ++ ⟨#[61]⟩) = ⟨(a ++ b ++ [61]).toArray⟩ from bapp (a ++ b) [61], bapp (a ++ b ++ [61]) c]
theorem quoted_at (s : ByteArray) (l : List UInt8) (hud : s.data.toList = l) (hl : l.length ≤ 1000) (w : World) :
    Calls Tryz.prog 47 #[.string s] w fun e w' => e = .returned (.string ⟨([34] ++ escR l ++ [34]).toArray⟩) ∧ w = w' := by
  have hsz : s.size = l.length := by rw [Lib.size_eq, hud]
  have HU := Lib.hid hud
  clear hud
  go_enter Tryz.func47, Tryz.ntmps47
  go_wp2
  go_loop [3, 4] (fun o i => ∃ (k : Nat) (T : List UInt8), k ≤ l.length ∧ i = .int .i64 (k : Int) ∧ o = .string ⟨T.toArray⟩ ∧ T = [34] ++ escR (l.take k)) (fun _ i => l.length - (intOf i).toNat)
  case atStart => exact ⟨0, [34], Nat.zero_le _, rfl, rfl, rfl⟩
  case round =>
    obtain ⟨k, T, hk, rfl, rfl, hT⟩ := hrel
    have hTl : T.length ≤ 3000 := by
      have := escR_len (l.take k)
      rw [List.length_take] at this
      rw [hT]; simp only [List.length_append, List.length_cons, List.length_nil]; omega
    by_cases hlt : k < l.length
    · have hi : k < s.size := by omega
      have app := app_one T s k hi
      have app2 := app_one (T ++ [92]) s k hi
      obtain ⟨c, hc⟩ : ∃ c : UInt8, s[k]'hi = c := ⟨_, rfl⟩
      have hcl : l[k]? = some c := by rw [← HU.out, ← hc]; exact Lib.data_getElem? s k hi
      obtain ⟨hn, he⟩ := List.getElem?_eq_some_iff.1 hcl
      have hsn : [34] ++ escR (l.take (k + 1)) = T ++ escC c := by rw [List.take_succ_eq_append_getElem hn, he, escR_snoc, hT]; simp
      rw [hc] at app app2
      have h0 : (0 : Int) ≤ (k : Int) := by omega
      have h1 : (k : Int) < (s.size : Int) := by omega
      have SN := Lib.hid hsn
      have AP := Lib.hid app
      have AP2 := Lib.hid app2
      clear hsn hcl he hT app app2
      by_cases q1 : c.toNat = 34
      · have d1 : ((c.toNat : Int) == 34) = true := by rw [beq_iff_eq]; omega
        go_wp2
        refine ⟨⟨k + 1, T ++ [92, c], by omega, by go_num, ?_, ?_⟩, by simp only [intOf]; omega⟩
        · rw [show ((⟨T.toArray⟩ : ByteArray) ++ ⟨#[92]⟩) = ⟨(T ++ [92]).toArray⟩ from bapp T [92], AP2.out]; simp
        · rw [SN.out]; unfold escC; rw [if_pos (by omega)]
      · have d1 : ((c.toNat : Int) == 34) = false := by rw [beq_eq_false_iff_ne]; omega
        by_cases q2 : c.toNat = 92
        · have d2 : ((c.toNat : Int) == 92) = true := by rw [beq_iff_eq]; omega
          go_wp2
          refine ⟨⟨k + 1, T ++ [92, c], by omega, by go_num, ?_, ?_⟩, by simp only [intOf]; omega⟩
          · rw [show ((⟨T.toArray⟩ : ByteArray) ++ ⟨#[92]⟩) = ⟨(T ++ [92]).toArray⟩ from bapp T [92], AP2.out]; simp
          · rw [SN.out]; unfold escC; rw [if_pos (by omega)]
        · have d2 : ((c.toNat : Int) == 92) = false := by rw [beq_eq_false_iff_ne]; omega
          go_wp2
          refine ⟨⟨k + 1, T ++ [c], by omega, by go_num, ?_, ?_⟩, by simp only [intOf]; omega⟩
          · rw [AP.out]
          · rw [SN.out]; unfold escC; rw [if_neg (by omega)]
    · obtain rfl : k = l.length := by omega
      have h1 : ¬ (l.length : Int) < (s.size : Int) := by omega
      rw [List.take_length] at hT
      have HT := Lib.hid hT
      clear hT
      go_wp2
      go_ret
      refine ⟨?_, rfl⟩
      show Ending.returned (.string ((⟨T.toArray⟩ : ByteArray) ++ ⟨#[34]⟩)) = _
      rw [show ((⟨T.toArray⟩ : ByteArray) ++ ⟨#[34]⟩) = ⟨(T ++ [34]).toArray⟩ from bapp T [34], HT.out]
      rfl
/-- the reference's Text of labels in memory -/
theorem run_snd (pre : List SLab) : (runS pre).2 = if pre = [] then [] else [44] := by
  rcases List.eq_nil_or_concat pre with rfl | ⟨q, x, rfl⟩
  · rfl
  · rw [List.concat_eq_append, runS_snoc, if_neg (by simp)]
set_option maxHeartbeats 4000000 in
theorem rtext_any (a : Option Addr) (len cap : Nat) (zs : List SLab) (hlen : zs.length ≤ 100) (w : World) (hI : Labs w.heap.size w (.slice a len cap) zs) :
    Calls Tryz.prog 30 #[.slice a len cap] w fun e w' => e = .returned (.string ⟨(textL zs).toArray⟩) ∧ Below w.heap.size w w' := by
  obtain rfl : len = zs.length := hI.len
  have HI := Lib.hid hI
  clear hI
  go_enter Tryz.func30, Tryz.ntmps30
  go_wp2
  go_loopw [3, 4] (fun o i wr => ∃ (k : Nat) (T : List UInt8), k ≤ zs.length ∧ i = .int .i64 (k : Int) ∧ o = .string ⟨T.toArray⟩ ∧ T = (runS (zs.take k)).1 ∧ Below w.heap.size w wr) (fun _ i _ => zs.length - (intOf i).toNat)
  case atStart => exact ⟨0, [123], Nat.zero_le _, rfl, rfl, rfl, Below.refl _ _⟩
  case round =>
    obtain ⟨k, T, hk, rfl, rfl, hT, hB⟩ := hrel
    have hTl : T.length ≤ 60401 := by
      have := (runS_len (zs.take k)).1
      rw [List.length_take] at this
      rw [hT]; omega
    by_cases hlt : k < zs.length
    · obtain ⟨x, hx⟩ : ∃ x, zs[k]? = some x := ⟨_, List.getElem?_eq_getElem hlt⟩
      obtain ⟨hn, he⟩ := List.getElem?_eq_some_iff.1 hx
      have hsn : (runS (zs.take (k + 1))).1 = T ++ (runS (zs.take k)).2 ++ labT x.1 := by rw [List.take_succ_eq_append_getElem hn, he, runS_snoc, hT]
      rw [run_snd] at hsn
      rcases HI.out.below hB with ⟨_, rfl⟩ | ⟨b, off, c, e, hb, hc⟩
      · simp at hlt
      obtain ⟨rfl, rfl⟩ : a = some ⟨b, off, none⟩ ∧ cap = c := by simpa using e
      obtain ⟨c0, c1⟩ := hc k x hx
      obtain ⟨⟨xn, xv⟩, hx0⟩ := x
      have hx1 : xn.length ≤ 200 := hx0.1
      have hx2 : xv.length ≤ 200 := hx0.2
      dsimp only at c0 c1 hsn
      have h0 : (0 : Int) ≤ (k : Int) := by omega
      have h1 : (k : Int) < (zs.length : Int) := by omega
      have QQ := Lib.hid (fun W => (quoted_at ⟨xv.toArray⟩ xv rfl (by omega) W).mono (R' := fun e w' => e = .returned (.string ⟨([34] ++ escR xv ++ [34]).toArray⟩) ∧ w' = W) (fun _ _ h => ⟨h.1, h.2.symm⟩))
      have hq := escR_len xv
      have HQ : ([34] ++ escR xv ++ [34]).length ≤ 402 := by simp only [List.length_append, List.length_cons, List.length_nil]; omega
      have eqt : ∀ P : List UInt8, P ++ labT (xn, xv) = P ++ xn ++ [61] ++ ([34] ++ escR xv ++ [34]) := fun P => by unfold labT; simp
      have EQT := Lib.hid eqt
      have SN := Lib.hid hsn
      generalize [34] ++ escR xv ++ [34] = Q at *
      clear e hc hx he hsn hT hq eqt
      by_cases hk0 : k = 0
      · have d0 : decide ((0 : Int) < (k : Int)) = false := by rw [decide_eq_false_iff_not]; omega
        have d1 : decide (0 < k) = false := by rw [decide_eq_false_iff_not]; omega
        have d2 : ¬ 0 < k := by omega
        have SN2 : Hid ((runS (zs.take (k + 1))).1 = T ++ xn ++ [61] ++ Q) := by
          unfold Hid
          rw [SN.out, if_pos (by rw [hk0]; rfl), List.append_nil, EQT.out]
        clear SN hk0 EQT
        go_wp2
        go_quiet ((go_at_call 47; exact Calls.quiet_of_same (QQ.out _)))
        have hB2 : Below w.heap.size w (wr.drewN nq) := below_dN hB nq
        go_wp2
        go_roundw
        case rel => exact ⟨k + 1, T ++ xn ++ [61] ++ Q, by omega, by go_num, by rw [app4], SN2.out.symm, hB2⟩
        case measure => simp [intOf]; omega
      · have d0 : decide ((0 : Int) < (k : Int)) = true := by rw [decide_eq_true_eq]; omega
        have d1 : decide (0 < k) = true := by rw [decide_eq_true_eq]; omega
        have d2 : 0 < k := by omega
        have SN2 : Hid ((runS (zs.take (k + 1))).1 = T ++ [44] ++ xn ++ [61] ++ Q) := by
          unfold Hid
          rw [SN.out, if_neg (by
            intro e
            have hz : (zs.take k).length = 0 := by rw [e]; rfl
            rw [List.length_take] at hz
            omega), EQT.out]
        clear SN hk0 EQT
        go_wp2
        go_quiet ((go_at_call 47; exact Calls.quiet_of_same (QQ.out _)))
        have hB2 : Below w.heap.size w (wr.drewN nq) := below_dN hB nq
        go_wp2
        go_roundw
        case rel => exact ⟨k + 1, T ++ [44] ++ xn ++ [61] ++ Q, by omega, by go_num, by rw [show ((⟨T.toArray⟩ : ByteArray) ++ ⟨#[44]⟩) = ⟨(T ++ [44]).toArray⟩ from bapp T [44], app4], SN2.out.symm, hB2⟩
        case measure => simp [intOf]; omega
    · obtain rfl : k = zs.length := by omega
      rw [List.take_length] at hT
      have HT := Lib.hid hT
      clear hT
      go_wp2
      go_ret
      refine ⟨?_, hB⟩
      show Ending.returned (.string ((⟨T.toArray⟩ : ByteArray) ++ ⟨#[125]⟩)) = _
      rw [show ((⟨T.toArray⟩ : ByteArray) ++ ⟨#[125]⟩) = ⟨(T ++ [125]).toArray⟩ from bapp T [125], HT.out]
      rfl
theorem rsame_any (a1 a2 : Option Addr) (n1 c1 n2 c2 : Nat) (x y : List SLab) (hx : x.length ≤ 100) (hy : y.length ≤ 100) (w : World) (h1 : Labs w.heap.size w (.slice a1 n1 c1) x) (h2 : Labs w.heap.size w (.slice a2 n2 c2) y) :
    Calls Tryz.prog 32 #[.slice a1 n1 c1, .slice a2 n2 c2] w fun e w' => e = .returned (.bool (textL x == textL y && ((x.length : Int) == (y.length : Int)))) ∧ Below w.heap.size w w' := by
  obtain rfl : n1 = x.length := h1.len
  obtain rfl : n2 = y.length := h2.len
  have T1 := Lib.hid (rtext_any a1 x.length c1 x hx w h1)
  have T2 := Lib.hid (fun (W : World) (hb : Below w.heap.size w W) => rtext_any a2 y.length c2 y hy W (by
    rcases h2.below hb with e | ⟨b, off, cap, e, g1, g2⟩
    · exact .inl e
    · exact .inr ⟨b, off, cap, e, Nat.lt_of_lt_of_le g1 hb.size, g2⟩))
  clear h1 h2
  generalize textL x = p at *
  generalize textL y = q at *
  have ep : ByteArray.toList ⟨p.toArray⟩ = p := by rw [ByteArray.toList_eq]
  have eq : ByteArray.toList ⟨q.toArray⟩ = q := by rw [ByteArray.toList_eq]
  have hB0 := Below.refl w.heap.size w
  cases hpq : (p == q)
  · go_enter Tryz.func32, Tryz.ntmps32
    go_wp2_with fail
    refine (T1.out).mono ?_
    rintro e w1 ⟨rfl, hb1⟩
    go_wp2_with fail
    refine (T2.out _ hb1).mono ?_
    rintro e w2 ⟨rfl, hb2⟩
    go_wp2
    go_ret
    exact ⟨rfl, hb1.trans (hb2.mono hb1.size)⟩
  · go_enter Tryz.func32, Tryz.ntmps32
    go_wp2_with fail
    refine (T1.out).mono ?_
    rintro e w1 ⟨rfl, hb1⟩
    go_wp2_with fail
    refine (T2.out _ hb1).mono ?_
    rintro e w2 ⟨rfl, hb2⟩
    go_wp2
    go_ret
    exact ⟨rfl, hb1.trans (hb2.mono hb1.size)⟩
end Go.Proofs.YtgldieboflmnhaaGreatDoor
