/- belfrylaw5.MatchAll. -/
import Derived.Test.YtjnbgbdfoknakaaGreatDoorMtO
import Derived.Test.YtjnbgbdfoknakaaGreatDoorLawMatchNot
namespace Go.Proofs.YtjnbgbdfoknakaaGreatDoor
open Go Go.Proofs Go.RowKit Go.Shelf
set_option maxRecDepth 100000
theorem MtG.toL {n₀ : Nat} {W : World} {sv : Value} {zs : List SItm} : MtG n₀ W sv (zs.map (·.1)) → MtL n₀ W sv zs
 | .inl ⟨e, h⟩ => .inl ⟨e, by simpa using h⟩
 | .inr ⟨b, off, cap, e, hb, _, _, hc⟩ => .inr ⟨b, off, cap, by rw [List.length_map] at e; exact e, hb, fun j x hj => hc j x.1 (by rw [List.getElem?_map, hj]; rfl)⟩
theorem mtl_sub {n₀ b off cap : Nat} {W : World} {zs : List SItm} (h : MtL n₀ W (.slice (some ⟨b, off, none⟩) zs.length cap) zs) (k m c : Nat) (hkm : k + m ≤ zs.length) (h0 : 0 < zs.length) : MtL n₀ W (.slice (some ⟨b, off + k * 3, none⟩) m c) ((zs.drop k).take m) := by
 rcases h with ⟨_, rfl⟩ | ⟨b', off', cap', e, hb, hc⟩
 ·
  simp at h0
 ·
  obtain ⟨⟨rfl, rfl⟩, rfl⟩ : (b = b' ∧ off = off') ∧ cap = cap' := by simpa using e
  have hl : ((zs.drop k).take m).length = m := by rw [List.length_take, List.length_drop]; omega
  refine .inr ⟨b, off + k * 3, c, by rw [hl], hb, fun j x hj => ?_⟩
  rw [List.getElem?_take] at hj
  split at hj
  ·
   rw [List.getElem?_drop] at hj
   have := hc (k + j) x hj
   rw [show off + (k + j) * 3 = off + k * 3 + j * 3 by omega] at this
   exact this
  ·
   cases hj
theorem itmC_cons (x : SItm) (t : List SItm) : itmC (x :: t) = .string ⟨x.1.1.toArray⟩ :: .string ⟨x.1.2.1.toArray⟩ :: .string ⟨x.1.2.2.toArray⟩ :: itmC t := by unfold itmC; rw [List.flatMap_cons]; rfl
theorem itmC_app (p q : List SItm) : itmC (p ++ q) = itmC p ++ itmC q := by unfold itmC; rw [List.flatMap_append]
theorem itmC_len (zs : List SItm) : (itmC zs).length = zs.length * 3 := by
 induction zs with
 | nil => rfl
 | cons x t ih => rw [itmC_cons]; simp only [List.length_cons, ih]; omega
theorem itmC_one (zs : List SItm) : ∀ u ∈ itmC zs, u.oneCell' = true := by
 induction zs with
 | nil => intro u h; cases h
 | cons x t ih =>
  intro u h
  rw [itmC_cons] at h
  simp only [List.mem_cons] at h
  rcases h with rfl | rfl | rfl | h
  ·
   rfl
  ·
   rfl
  ·
   rfl
  ·
   exact ih u h
theorem itmC_cells {W : World} {b : Nat} : ∀ (zs : List SItm) (off : Nat), (∀ j x, zs[j]? = some x → W.cell? ⟨b, off + j * 3, none⟩ = some (.string ⟨x.1.1.toArray⟩) ∧ W.cell? ⟨b, off + j * 3 + 1, none⟩ = some (.string ⟨x.1.2.1.toArray⟩) ∧ W.cell? ⟨b, off + j * 3 + 2, none⟩ = some (.string ⟨x.1.2.2.toArray⟩)) →
  ∀ j u, (itmC zs)[j]? = some u → W.cell? ((⟨b, off, none⟩ : Addr).add j) = some u := by
 intro zs
 induction zs with
 | nil => intro off _ j u h; simp [itmC] at h
 | cons x t ih =>
  intro off hc j u h
  rw [itmC_cons] at h
  rw [Addr.add_lit]
  obtain ⟨c0, c1, c2⟩ := hc 0 x rfl
  rcases j with _ | _ | _ | j
  ·
   cases h; simpa using c0
  ·
   cases h; simpa using c1
  ·
   cases h; simpa using c2
  ·
   have := ih (off + 3) (fun i y hy => by
    have := hc (i + 1) y (by simpa using hy)
    rw [show off + (i + 1) * 3 = off + 3 + i * 3 by omega] at this
    exact this) j u (by simpa using h)
   rw [Addr.add_lit] at this
   rw [show off + (j + 1 + 1 + 1) = off + 3 + j by omega]
   exact this
theorem mtl_cells {n₀ b off cap : Nat} {W : World} {zs : List SItm} (h : MtL n₀ W (.slice (some ⟨b, off, none⟩) zs.length cap) zs) (h0 : 0 < zs.length) : ∀ j u, (itmC zs)[j]? = some u → W.cell? ((⟨b, off, none⟩ : Addr).add j) = some u := by
 rcases h with ⟨_, rfl⟩ | ⟨b', off', cap', e, _, hc⟩
 ·
  simp at h0
 ·
  obtain ⟨⟨rfl, rfl⟩, rfl⟩ : (b = b' ∧ off = off') ∧ cap = cap' := by simpa using e
  exact itmC_cells zs off hc
set_option maxHeartbeats 8000000 in
theorem all_law (a : Option Addr) (len cap : Nat) (zs : List Itm) (hlen : zs.length ≤ 9223372036854775807) (hbig : ∀ x ∈ zs, x.1.length ≤ 9223372036854775807 ∧ x.2.1.length ≤ 9223372036854775807 ∧ x.2.2.length ≤ 9223372036854775807)
  (a2 : Option Addr) (n2 c2 : Nat) (ls : List Lab) (hlen2 : ls.length ≤ 9223372036854775807) (hbig2 : ∀ x ∈ ls, x.1.length ≤ 9223372036854775807 ∧ x.2.length ≤ 9223372036854775807) (t : Int) (ht : 0 ≤ t ∧ t ≤ 255) (w : World) (hT : Tab w) (hI : MtG w.heap.size w (.slice a len cap) zs) (hL : LabsG w.heap.size w (.slice a2 n2 c2) ls) :
  Calls Tryz.prog 5 #[.slice a len cap, .slice a2 n2 c2, .int .u8 t] w fun e w' => e = .returned (.bool true) ∧ Below w.heap.size w w' := by
 obtain rfl : len = zs.length := hI.len
 have KN := Lib.hid (known_any w hT)
 have FW := Lib.hid (fun W (hW : Below w.heap.size w W) => few5_any a zs.length cap zs hlen hbig w.heap.size W (by
  rcases hI with e | ⟨b, off, c, e, q1, q2, q3, q4⟩
  ·
   exact .inl e
  ·
   exact .inr ⟨b, off, c, e, q1, q2, q3, fun j x hj => ⟨(hW.cell (p := ⟨b, off + j * 3, none⟩) q1).trans (q4 j x hj).1, (hW.cell (p := ⟨b, off + j * 3 + 1, none⟩) q1).trans (q4 j x hj).2.1, (hW.cell (p := ⟨b, off + j * 3 + 2, none⟩) q1).trans (q4 j x hj).2.2⟩⟩))
 cases hf : fewIs zs
 ·
  rw [hf] at FW
  clear hf hI hL hT
  go_enter Tryz.func5, Tryz.ntmps5
  go_wp2_with fail
  refine (KN.out).mono ?_
  rintro e w1 ⟨rfl, hb⟩
  go_wp2_with fail
  refine (FW.out _ hb).mono ?_
  rintro e w2 ⟨rfl, rfl⟩
  go_wp2
  go_ret
  exact ⟨rfl, hb⟩
 rw [hf] at FW
 obtain ⟨ss, hss, hl12⟩ := few5_short hf
 have hM : MtL w.heap.size w (.slice a zs.length cap) ss := MtG.toL (by rw [hss]; exact hI)
 have hcap : zs.length ≤ cap ∨ zs.length = 0 := by
  rcases hI with ⟨_, h⟩ | ⟨b, off, c, e, _, q2, _, _⟩
  ·
   exact .inr (by rw [h]; rfl)
  ·
   injection e with _ _ e3; subst e3; exact .inl q2
 have hzl : zs.length = ss.length := by rw [← hss, List.length_map]
 rw [hzl] at hM hcap hlen FW ⊢
 clear hf hbig hI hzl hss
 have GD := Lib.hid (fun W (hW : Below w.heap.size w W) => good_any a2 n2 c2 ls hlen2 hbig2 W (by
  rcases hL.below hW with e | ⟨b, off, c, e, q1, q2⟩
  ·
   exact .inl e
  ·
   exact .inr ⟨b, off, c, e, Nat.lt_of_lt_of_le q1 hW.size, q2⟩))
 have HL := Lib.hid hL
 have HM := Lib.hid hM
 have HT := Lib.hid (fun W (hW : Below w.heap.size w W) => hT.below hW)
 clear hL hM hT
 go_enter Tryz.func5, Tryz.ntmps5
 go_wp2_with fail
 refine (KN.out).mono ?_
 rintro e w1 ⟨rfl, hb1⟩
 go_wp2_with fail
 refine (FW.out _ hb1).mono ?_
 rintro e w2 ⟨rfl, rfl⟩
 go_wp2_with fail
 refine (GD.out _ hb1).mono ?_
 rintro e w2 ⟨b, rfl, hb, hf⟩
 have HB := Lib.hid (hb1.trans (hb.mono hb1.size))
 clear hb hb1 KN GD FW
 cases b
 ·
  clear hf
  go_wp2
  go_ret
  exact ⟨rfl, HB.out⟩
 have hf := hf rfl
 obtain ⟨sl, hsl, hl⟩ := few_short hf
 have hv := few_val hf hsl
 have hL2 : Labs w.heap.size w (.slice a2 n2 c2) sl := LabsG.toS (by rw [hsl]; exact HL.out)
 have HH := Lib.hid (fun sv zs' h W (hW : Below w.heap.size w W) hm => mholds_any sv zs' h a2 n2 c2 sl (by omega) hv W (HT.out W hW) hm (labs_on hL2 hW))
 have OF := Lib.hid (of5_any a ss.length cap ss (by omega) w2 (HM.out.on HB.out))
 clear hf hsl hv hL2 HL HT
 go_wp2_with fail
 refine (OF.out).mono ?_
 rintro e w3 ⟨v, rfl, hr, hb⟩
 have hm3 := mtl_of_row hr
 obtain ⟨a3, c3, rfl⟩ := hm3.slice
 have CM := Lib.hid (rcheckM_any _ ss (by omega) w3 hm3)
 have HB3 := Lib.hid (HB.out.trans (hb.mono HB.out.size))
 clear hb hr hm3 OF
 generalize checkMR ss = C at *
 go_wp2_with fail
 refine (CM.out).mono ?_
 rintro e w4 ⟨rfl, hb⟩
 have HB4 := Lib.hid (HB3.out.trans (hb.mono HB3.out.size))
 clear hb CM
 by_cases hC : C = 0
 ·
  subst hC
  by_cases h0 : ss.length = 0
  ·
   have q0 : ((ss.length : Int) == 0) = true := by rw [beq_iff_eq]; omega
   clear hcap
   go_wp2
   go_ret
   exact ⟨rfl, HB4.out⟩
  have q0 : ((ss.length : Int) == 0) = false := by rw [beq_eq_false_iff_ne]; omega
  have h1 : 0 < ss.length := by omega
  have hcap : ss.length ≤ cap := by omega
  obtain ⟨b, off, rfl⟩ : ∃ b off, a = some ⟨b, off, none⟩ := by
   rcases HM.out with ⟨⟨_, _, e⟩, h⟩ | ⟨b, off, c, e, _⟩
   ·
    rw [h] at h1; simp at h1
   ·
    injection e with e1 _ _; exact ⟨b, off, e1⟩
  have HS := Lib.hid (fun k m c (h : k + m ≤ ss.length) W (hW : Below w.heap.size w W) => HH.out (.slice (some ⟨b, off + k * 3, none⟩) m c) ((ss.drop k).take m) (by rw [List.length_take, List.length_drop]; omega) W hW (mtl_sub (HM.out.on hW) k m c h h1))
  go_wp2
  go_loopw [7, 8] (fun al i wr => ∃ k : Nat, k ≤ ss.length ∧ i = .int .i64 (k : Int) ∧ al = .bool (holdsR (ss.take k) sl) ∧ Below w.heap.size w wr) (fun _ i _ => ss.length - (intOf i).toNat)
  case atStart => exact ⟨0, Nat.zero_le _, rfl, rfl, HB4.out⟩
  case round =>
   obtain ⟨k, hk, rfl, rfl, hBw⟩ := hrel
   by_cases hlt : k < ss.length
   ·
    have g0 : (0 : Int) ≤ (k : Int) := by omega
    have g1 : (k : Int) < (ss.length : Int) := by omega
    have hsn : holdsR (ss.take (k + 1)) sl = (holdsR (ss.take k) sl && holdsR ((ss.drop k).take 1) sl) := by rw [← holdsR_app, ← List.take_add]
    have SN := Lib.hid hsn
    have HB5 := Lib.hid hBw
    clear hsn hBw
    generalize holdsR (ss.take k) sl = P at *
    cases P
    ·
     go_wp2
     go_roundw
     case rel => exact ⟨k + 1, by omega, by go_num, by rw [SN.out]; rfl, HB5.out⟩
     case measure => simp [intOf]; omega
    ·
     have w1' : IntKind.i64.wrap ((k : Int) + 1) = (k : Int) + 1 := by rw [IntKind.wrap_i64]; omega
     have g2 : (0 : Int) ≤ (k : Int) + 1 := by omega
     have g3 : (k : Int) + 1 ≤ (cap : Int) := by omega
     have g4 : (k : Int) ≤ (k : Int) + 1 := by omega
     go_wp2_with fail
     refine (HS.out k 1 (cap - k) (by omega) _ HB5.out).mono ?_
     rintro e w5 ⟨rfl, hb⟩
     have HB6 := Lib.hid (HB5.out.trans (hb.mono HB5.out.size))
     clear hb
     go_wp2
     go_roundw
     case rel => exact ⟨k + 1, by omega, by go_num, by rw [SN.out]; rfl, HB6.out⟩
     case measure => simp [intOf]; omega
   ·
    obtain rfl : k = ss.length := by omega
    have HB5 := Lib.hid hBw
    rw [List.take_length]
    obtain ⟨r, hr, hrl⟩ : ∃ r : Nat, t % (ss.length : Int) = (r : Int) ∧ r < ss.length := ⟨(t % (ss.length : Int)).toNat, by have := Int.emod_nonneg t (b := (ss.length : Int)) (by omega); omega, by have := Int.emod_lt_of_pos t (b := (ss.length : Int)) (by omega); omega⟩
    have hd : ((ss.length : Int) == 0) = false := q0
    have g1 : ¬ (ss.length : Int) = 0 := by omega
    clear hBw
    go_wp2
    rw [hr]
    obtain ⟨i0, hi, hz0, hz1, hz2⟩ := info_parts info_mat
    have HI := Lib.hid hi
    have HZ := Lib.hid hz0
    have HZ1 := Lib.hid hz1
    have HZ2 := Lib.hid hz2
    have r0 : (0 : Int) ≤ (r : Int) := by omega
    have r1 : (r : Int) ≤ (ss.length : Int) := by omega
    have r2 : (r : Int) ≤ (cap : Int) := by omega
    have r3 : ¬ cap = r := by omega
    have r4 : r ≤ ss.length := by omega
    clear hi hz0 hz1 hz2 hr
    refine wp_region_held_drew (S := fun _ => True) (by kernel_rfl) trivial (fun hS => ?_)
    refine tkH 1 hS ?_
    refine tkH 2 hS ?_
    refine tkH 3 hS ?_
    refine tkH 5 hS ?_
    refine tkH 6 hS ?_
    refine tkH 7 hS ?_
    refine wpAnyH_ready (rs := [0]) (by kernel_rfl) (by simp) ?_
    refine' AllReadyH.cons (o := ?oo0) ?ho0 (fun K hK => ?st0) AllReadyH.nil
    case ho0 =>
     simp only [qa, qb, qc]
     exact rfl
    go_simp
    refine hK.out _ _ trivial (fun hS => ?_)
    clear hK K
    (try simp only [Act.put, qd, qe, qf])
    have ow0 : (wr.drew.alloc (.cells #[] 49)).ownsRow wr.heap.size 49 3 (.slice (some ⟨wr.heap.size, 0, none⟩) 0 0) 0 [] :=
     ⟨rfl, .inr ⟨wr.heap.size, 0, #[], rfl, Nat.le_refl _, heap_alloc_new wr.drew _, Nat.le_refl _, by unfold maxLen; omega, rfl, rfl⟩⟩
    have B6 : Below w.heap.size w (wr.drew.alloc (.cells #[] 49)) := below_new HB5.out.drew _
    refine wpAnyH_ready (rs := [4]) (by kernel_rfl) (by simp) ?_
    refine' AllReadyH.cons (o := ?oo4) ?ho4 (fun K hK => ?st4) AllReadyH.nil
    case ho4 =>
     simp only [qa, qb, qc]
     exact rfl
    have hl1 : (ss.drop r).length = ss.length - r := List.length_drop
    have hl2 : (ss.take r).length = r := by rw [List.length_take]; omega
    have hm1 : MtL (wr.drew.alloc (.cells #[] 49)).heap.size (wr.drew.alloc (.cells #[] 49)) (.slice (some ⟨b, off + r * 3, none⟩) (ss.drop r).length (cap - r)) (ss.drop r) := by
     have h := mtl_sub (HM.out.on B6) r (ss.length - r) (cap - r) (by omega) h1
     rw [List.take_of_length_le (by rw [hl1]; exact Nat.le_refl _)] at h
     rw [hl1]; exact h
    have ce1 := mtl_cells hm1 (by omega)
    refine step_append_own rfl (.tmp 53) (.tmp 56) 22 rfl wr.heap.size 49 i0 (.agg #[.string ⟨#[]⟩, .string ⟨#[]⟩, .string ⟨#[]⟩]) 3 48 Tryz.underlying22 HI.out HZ.out HZ1.out HZ2.out rfl (by decide) (.slice (some ⟨wr.heap.size, 0, none⟩) 0 0) 0 [] rfl ow0 ⟨b, off + r * 3, none⟩ (ss.length - r) (cap - r) (itmC (ss.drop r)) rfl (by rw [itmC_len, hl1]) ce1 (itmC_one _) (by unfold maxLen; omega) (by omega) (by simp) ?_
    intro v1 w5 own1 gr1
    have B7 : Below w.heap.size w w5 := B6.grown gr1 (by have := HB5.out.size; simp; omega) (fun q eq => by
     obtain rfl : wr.heap.size = q := by simpa [Value.ownBlock] using eq
     exact HB5.out.size)
    refine hK.out _ _ trivial (fun hS => ?_)
    clear hK K ow0 hm1 ce1 gr1 B6
    (try simp only [Act.put, qd, qe, qf])
    refine wpAnyH_ready (rs := [8]) (by kernel_rfl) (by simp) ?_
    refine' AllReadyH.cons (o := ?oo8) ?ho8 (fun K hK => ?st8) AllReadyH.nil
    case ho8 =>
     simp only [qa, qb, qc]
     exact rfl
    have ce2 : ∀ j u, (itmC (ss.take r))[j]? = some u → w5.cell? ((⟨b, off, none⟩ : Addr).add j) = some u := by
     have h := mtl_cells (HM.out.on B7) h1
     intro j u hj
     refine h j u ?_
     have e : itmC ss = itmC (ss.take r) ++ itmC (ss.drop r) := by rw [← itmC_app, List.take_append_drop]
     rw [e, List.getElem?_append_left (List.getElem?_eq_some_iff.1 hj).1]; exact hj
    have hw5 : wr.heap.size ≤ w5.heap.size := by
     rcases own1.2 with ⟨_, h⟩ | ⟨g, _, _, _, hb, hg, _⟩
     ·
      omega
     ·
      have := (Array.getElem?_eq_some_iff.1 hg).1; omega
    refine step_append_own rfl (.tmp 57) (.tmp 60) 22 rfl wr.heap.size 49 i0 (.agg #[.string ⟨#[]⟩, .string ⟨#[]⟩, .string ⟨#[]⟩]) 3 48 Tryz.underlying22 HI.out HZ.out HZ1.out HZ2.out rfl (by decide) v1 (0 + (ss.length - r)) _ rfl own1 ⟨b, off, none⟩ r cap (itmC (ss.take r)) rfl (by rw [itmC_len, hl2]) ce2 (itmC_one _) (by unfold maxLen; omega) (by omega) hw5 ?_
    intro v2 w6 own2 gr2
    have B8 : Below w.heap.size w w6 := B7.grown gr2 B7.size (fun q eq => by
     rcases own1.2 with ⟨rfl, _⟩ | ⟨g, _, _, rfl, hb, _⟩
     ·
      simp [Value.ownBlock] at eq
     ·
      obtain rfl : g = q := by simpa [Value.ownBlock] using eq
      exact Nat.le_trans HB5.out.size hb)
    refine hK.out _ _ trivial (fun hS => ?_)
    have hm2 : MtL w6.heap.size w6 v2 (ss.drop r ++ ss.take r) := by
     refine mtl_of_row (base := wr.heap.size) (e := 49) ?_
     rw [List.length_append, hl1, hl2, itmC_app]
     simpa using own2
    clear hK K ce2 gr2 own1 own2 hw5 B7
    (try simp only [Act.put, qd, qe, qf])
    refine tkH 9 hS ?_
    refine wpAnyH_done (by kernel_rfl) ?_ _
    have HB8 := Lib.hid B8
    have HL1 := Lib.hid (HH.out (.slice (some ⟨b, off, none⟩) ss.length cap) ss (by omega) w6 B8 (HM.out.on B8))
    have HM2 := Lib.hid hm2
    have hrot : holdsR (ss.drop r ++ ss.take r) sl = holdsR ss sl := by
     rw [holdsR_app, Bool.and_comm, ← holdsR_app, List.take_append_drop]
    have hlr : (ss.drop r ++ ss.take r).length ≤ 1000 := by rw [List.length_append, hl1, hl2]; omega
    obtain ⟨a5, c5, rfl⟩ := hm2.slice
    have HR := Lib.hid (fun W (hW : Below w6.heap.size w6 W) => HH.out _ (ss.drop r ++ ss.take r) hlr W (B8.trans (hW.mono B8.size)) (HM2.out.on hW))
    rw [hrot] at HR
    generalize holdsR ss sl = P at *
    generalize (ss.drop r ++ ss.take r).length = n5 at *
    clear hm2 hrot hlr B8 hS hl1 hl2 HS HH
    cases P
    ·
     go_wp2_with fail
     refine (HL1.out).mono ?_
     rintro e w7 ⟨rfl, hb⟩
     have HB9 := Lib.hid (HB8.out.trans (hb.mono HB8.out.size))
     have H9 := Lib.hid (HR.out w7 hb)
     clear hb
     go_wp2_with fail
     refine (H9.out).mono ?_
     rintro e w8 ⟨rfl, hb⟩
     go_wp2
     go_ret
     exact ⟨rfl, HB9.out.trans (hb.mono HB9.out.size)⟩
    ·
     go_wp2_with fail
     refine (HL1.out).mono ?_
     rintro e w7 ⟨rfl, hb⟩
     have HB9 := Lib.hid (HB8.out.trans (hb.mono HB8.out.size))
     have H9 := Lib.hid (HR.out w7 hb)
     clear hb
     go_wp2_with fail
     refine (H9.out).mono ?_
     rintro e w8 ⟨rfl, hb⟩
     go_wp2
     go_ret
     exact ⟨rfl, HB9.out.trans (hb.mono HB9.out.size)⟩
 ·
  have q1 : (C == 0) = false := by rw [beq_eq_false_iff_ne]; exact hC
  clear hC
  go_wp2
  go_ret
  exact ⟨rfl, HB4.out⟩
end Go.Proofs.YtjnbgbdfoknakaaGreatDoor
