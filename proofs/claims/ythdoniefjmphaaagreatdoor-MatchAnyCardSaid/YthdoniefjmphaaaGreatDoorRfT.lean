/- belfryref9: Quoted, MatchText. -/
import Derived.Test.YthdoniefjmphaaaGreatDoorMt7
namespace Go.Proofs.YthdoniefjmphaaaGreatDoor
open Go Go.Proofs Go.RowKit Go.Shelf
set_option maxRecDepth 100000
theorem app_one (a : List UInt8) (s : ByteArray) (k : Nat) (hk : k < s.size) : ((⟨a.toArray⟩ : ByteArray) ++ s.extract k (k + 1)) = ⟨(a ++ [s[k]'hk]).toArray⟩ := by
 have e : (s.extract k (k + 1)).data.toList = [s[k]'hk] := by
  rw [Lib.extract_data, Nat.add_sub_cancel_left];have hd := Lib.data_getElem? s k hk;obtain ⟨hn, he⟩ := List.getElem?_eq_some_iff.1 hd;rw [List.drop_eq_getElem_cons hn, he];rfl
 have e2 : s.extract k (k + 1) = ⟨[s[k]'hk].toArray⟩ := bytes_mk _ _ e;rw [e2];exact bapp a _
theorem app4m (a b c d : List UInt8) : ((⟨a.toArray⟩ : ByteArray) ++ ⟨b.toArray⟩ ++ ⟨c.toArray⟩ ++ ⟨d.toArray⟩) = ⟨(a ++ b ++ c ++ d).toArray⟩ := by
 rw [bapp a b, bapp (a ++ b) c, bapp (a ++ b ++ c) d]
theorem quoted_at (s : ByteArray) (l : List UInt8) (hud : s.data.toList = l) (hl : l.length ≤ 1000) (w : World) :
  Calls Tryz.prog 35 #[.string s] w fun e w' => e = .returned (.string ⟨([34] ++ escR l ++ [34]).toArray⟩) ∧ w = w' := by
 have hsz : s.size = l.length := by rw [Lib.size_eq, hud]
 have HU := Lib.hid hud;clear hud;go_enter Tryz.func35, Tryz.ntmps35
 go_wp2
 go_loop [3, 4] (fun o i => ∃ (k : Nat) (T : List UInt8), k ≤ l.length ∧ i = .int .i64 (k : Int) ∧ o = .string ⟨T.toArray⟩ ∧ T = [34] ++ escR (l.take k)) (fun _ i => l.length - (intOf i).toNat)
 case atStart => exact ⟨0, [34], Nat.zero_le _, rfl, rfl, rfl⟩
 case round =>
  obtain ⟨k, T, hk, rfl, rfl, hT⟩ := hrel;have hTl : T.length ≤ 3000 := by
   have := escR_len (l.take k);rw [List.length_take] at this;rw [hT]; simp only [List.length_append, List.length_cons, List.length_nil]; omega
  by_cases hlt : k < l.length
  ·
   have hi : k < s.size := by omega
   have app := app_one T s k hi;have app2 := app_one (T ++ [92]) s k hi;obtain ⟨c, hc⟩ : ∃ c : UInt8, s[k]'hi = c := ⟨_, rfl⟩;have hcl : l[k]? = some c := by rw [← HU.out, ← hc]; exact Lib.data_getElem? s k hi
   obtain ⟨hn, he⟩ := List.getElem?_eq_some_iff.1 hcl;have hsn : [34] ++ escR (l.take (k + 1)) = T ++ escC c := by rw [List.take_succ_eq_append_getElem hn, he, escR_snoc, hT]; simp
   rw [hc] at app app2;have h0 : (0 : Int) ≤ (k : Int) := by omega
   have h1 : (k : Int) < (s.size : Int) := by omega
   have SN := Lib.hid hsn;have AP := Lib.hid app;have AP2 := Lib.hid app2;clear hsn hcl he hT app app2;by_cases q1 : c.toNat = 34
   ·
    have d1 : ((c.toNat : Int) == 34) = true := by rw [beq_iff_eq]; omega
    go_wp2
    refine ⟨⟨k + 1, T ++ [92, c], by omega, by go_num, ?_, ?_⟩, by simp only [intOf]; omega⟩
    ·
     rw [show ((⟨T.toArray⟩ : ByteArray) ++ ⟨#[92]⟩) = ⟨(T ++ [92]).toArray⟩ from bapp T [92], AP2.out]; simp
    ·
     rw [SN.out]; unfold escC; rw [if_pos (by omega)]
   ·
    have d1 : ((c.toNat : Int) == 34) = false := by rw [beq_eq_false_iff_ne]; omega
    by_cases q2 : c.toNat = 92
    ·
     have d2 : ((c.toNat : Int) == 92) = true := by rw [beq_iff_eq]; omega
     go_wp2
     refine ⟨⟨k + 1, T ++ [92, c], by omega, by go_num, ?_, ?_⟩, by simp only [intOf]; omega⟩
     ·
      rw [show ((⟨T.toArray⟩ : ByteArray) ++ ⟨#[92]⟩) = ⟨(T ++ [92]).toArray⟩ from bapp T [92], AP2.out]; simp
     ·
      rw [SN.out]; unfold escC; rw [if_pos (by omega)]
    ·
     have d2 : ((c.toNat : Int) == 92) = false := by rw [beq_eq_false_iff_ne]; omega
     go_wp2
     refine ⟨⟨k + 1, T ++ [c], by omega, by go_num, ?_, ?_⟩, by simp only [intOf]; omega⟩
     ·
      rw [AP.out]
     ·
      rw [SN.out]; unfold escC; rw [if_neg (by omega)]
  ·
   obtain rfl : k = l.length := by omega
   have h1 : ¬ (l.length : Int) < (s.size : Int) := by omega
   rw [List.take_length] at hT;have HT := Lib.hid hT;clear hT;go_wp2
   go_ret
   refine ⟨?_, rfl⟩;show Ending.returned (.string ((⟨T.toArray⟩ : ByteArray) ++ ⟨#[34]⟩)) = _;rw [show ((⟨T.toArray⟩ : ByteArray) ++ ⟨#[34]⟩) = ⟨(T ++ [34]).toArray⟩ from bapp T [34], HT.out];rfl
theorem runI_snd (pre : List SItm) : (runI pre).2 = if pre = [] then [] else [44] := by
 rcases List.eq_nil_or_concat pre with rfl | ⟨q, x, rfl⟩
 ·
  rfl
 ·
  rw [List.concat_eq_append, runI_snoc, if_neg (by simp)]
set_option maxHeartbeats 4000000 in
theorem rmtext_any (sv : Value) (zs : List SItm) (hreach : zs.length ≤ 100) (w : World) (hI : MtL w.heap.size w sv zs) :
  Calls Tryz.prog 17 #[sv] w fun e w' => e = .returned (.string ⟨(textM zs).toArray⟩) ∧ Below w.heap.size w w' := by
 obtain ⟨a, cap, rfl⟩ := hI.slice;have HI := Lib.hid hI;clear hI;go_enter Tryz.func17, Tryz.ntmps17
 go_wp2
 go_loopw [3, 4] (fun o i wr => ∃ (k : Nat) (T : List UInt8), k ≤ zs.length ∧ i = .int .i64 (k : Int) ∧ o = .string ⟨T.toArray⟩ ∧ T = (runI (zs.take k)).1 ∧ Below w.heap.size w wr) (fun _ i _ => zs.length - (intOf i).toNat)
 case atStart => exact ⟨0, [123], Nat.zero_le _, rfl, rfl, rfl, Below.refl _ _⟩
 case round =>
  obtain ⟨k, T, hk, rfl, rfl, hT, hB⟩ := hrel;have hTl : T.length ≤ 500000 := by
   have := (runI_len (zs.take k)).1;rw [List.length_take] at this;rw [hT]; omega
  by_cases hlt : k < zs.length
  ·
   obtain ⟨x, hx⟩ : ∃ x, zs[k]? = some x := ⟨_, List.getElem?_eq_getElem hlt⟩;obtain ⟨hn, he⟩ := List.getElem?_eq_some_iff.1 hx;have hsn : (runI (zs.take (k + 1))).1 = T ++ (runI (zs.take k)).2 ++ itT x.1 := by rw [List.take_succ_eq_append_getElem hn, he, runI_snoc, hT]
   rw [runI_snd] at hsn;rcases HI.out.below hB with ⟨_, rfl⟩ | ⟨b, off, c, e, hb, hc⟩
   ·
    simp at hlt
   obtain ⟨rfl, rfl⟩ : a = some ⟨b, off, none⟩ ∧ cap = c := by simpa using e
   obtain ⟨c0, c1, c2⟩ := hc k x hx;obtain ⟨⟨xn, xo, xv⟩, hx0⟩ := x;obtain ⟨hx1, hx3, hx2⟩ : xn.length ≤ 1000 ∧ xo.length ≤ 1000 ∧ xv.length ≤ 1000 := hx0;dsimp only at c0 c1 c2 hsn;have h0 : (0 : Int) ≤ (k : Int) := by omega
   have h1 : (k : Int) < (zs.length : Int) := by omega
   have QQ := Lib.hid (fun W => (quoted_at ⟨xv.toArray⟩ xv rfl (by omega) W).mono (R' := fun e w' => e = .returned (.string ⟨([34] ++ escR xv ++ [34]).toArray⟩) ∧ w' = W) (fun _ _ h => ⟨h.1, h.2.symm⟩));have hq := escR_len xv;have HQ : ([34] ++ escR xv ++ [34]).length ≤ 2002 := by simp only [List.length_append, List.length_cons, List.length_nil]; omega
   have eqt : ∀ P : List UInt8, P ++ itT (xn, xo, xv) = P ++ xn ++ xo ++ ([34] ++ escR xv ++ [34]) := fun P => by unfold itT quoR; simp
   have EQT := Lib.hid eqt;have SN := Lib.hid hsn;generalize [34] ++ escR xv ++ [34] = Q at *;clear e hc hx he hsn hT hq eqt;by_cases hk0 : k = 0
   ·
    have d0 : decide ((0 : Int) < (k : Int)) = false := by rw [decide_eq_false_iff_not]; omega
    have d1 : decide (0 < k) = false := by rw [decide_eq_false_iff_not]; omega
    have d2 : ¬ 0 < k := by omega
    have SN2 : Hid ((runI (zs.take (k + 1))).1 = T ++ xn ++ xo ++ Q) := by
     unfold Hid;rw [SN.out, if_pos (by rw [hk0]; rfl), List.append_nil, EQT.out]
    clear SN hk0 EQT;go_wp2
    go_quiet ((go_at_call 35; exact Calls.quiet_of_same (QQ.out _)))
    have hB2 : Below w.heap.size w (wr.drewN nq) := below_dN' hB nq;go_wp2
    go_roundw
    case rel => exact ⟨k + 1, T ++ xn ++ xo ++ Q, by omega, by go_num, by rw [app4m], SN2.out.symm, hB2⟩
    case measure => simp [intOf]; omega
   ·
    have d0 : decide ((0 : Int) < (k : Int)) = true := by rw [decide_eq_true_eq]; omega
    have d1 : decide (0 < k) = true := by rw [decide_eq_true_eq]; omega
    have d2 : 0 < k := by omega
    have SN2 : Hid ((runI (zs.take (k + 1))).1 = T ++ [44] ++ xn ++ xo ++ Q) := by
     unfold Hid;rw [SN.out, if_neg (by
      intro e;have hz : (zs.take k).length = 0 := by rw [e]; rfl
      rw [List.length_take] at hz;omega), EQT.out]
    clear SN hk0 EQT;go_wp2
    go_quiet ((go_at_call 35; exact Calls.quiet_of_same (QQ.out _)))
    have hB2 : Below w.heap.size w (wr.drewN nq) := below_dN' hB nq;go_wp2
    go_roundw
    case rel => exact ⟨k + 1, T ++ [44] ++ xn ++ xo ++ Q, by omega, by go_num, by rw [show ((⟨T.toArray⟩ : ByteArray) ++ ⟨#[44]⟩) = ⟨(T ++ [44]).toArray⟩ from bapp T [44], app4m], SN2.out.symm, hB2⟩
    case measure => simp [intOf]; omega
  ·
   obtain rfl : k = zs.length := by omega
   rw [List.take_length] at hT;have HT := Lib.hid hT;clear hT;go_wp2
   go_ret
   refine ⟨?_, hB⟩;show Ending.returned (.string ((⟨T.toArray⟩ : ByteArray) ++ ⟨#[125]⟩)) = _;rw [show ((⟨T.toArray⟩ : ByteArray) ++ ⟨#[125]⟩) = ⟨(T ++ [125]).toArray⟩ from bapp T [125], HT.out];rfl
end Go.Proofs.YthdoniefjmphaaaGreatDoor
