/- belfrylaw11.JournalEncode: the walk. -/
import Derived.Test.YteddlpcnefogpaaJlO
namespace Go.Proofs.Yteddlpcnefogpaa
open Go Go.Proofs Go.RowKit Go.Shelf
set_option maxRecDepth 100000
namespace LawJournalEncode
def rep (A : List UInt8) (k : Nat) : List UInt8 := (List.replicate k A).flatten
theorem rep_succ (A : List UInt8) (k : Nat) : rep A (k + 1) = rep A k ++ A := by unfold rep; rw [List.replicate_succ']; simp
theorem rep_len (A : List UInt8) (k : Nat) : (rep A k).length = k * A.length := by unfold rep; simp
theorem own_shape {W : World} {B T n : Nat} {v : Value} {X : List Value} (h : W.ownsRow B T 1 v n X) : ∃ a c, v = .slice a n c := by
  rcases h.2 with ⟨rfl, h0⟩ | ⟨g, cap, cur, rfl, _⟩
  · rw [h0]; exact ⟨_, _, rfl⟩
  · exact ⟨_, _, rfl⟩
set_option maxHeartbeats 8000000 in
theorem main (kd : UInt8) (aa : Option Addr) (ac : Nat) (A : List UInt8) (ts : Nat) (w : World) (hA : BysC w aa A.length ac A) (hl : A.length ≤ 300) (hts : ts ≤ 65535) :
    Calls Try.prog 4 #[byV kd, .slice aa A.length ac, .int .u16 (ts : Int)] w fun e w' => e = .returned (.bool true) ∧ Below w.heap.size w w' := by
  obtain ⟨i0, hi, hz0, hz1, hz2⟩ := info_parts info_u8
  have HI := Lib.hid hi
  have HZ := Lib.hid hz0
  have HZ1 := Lib.hid hz1
  have HZ2 := Lib.hid hz2
  have HK := Lib.hid (known_any w)
  have HA := Lib.hid hA
  have q0 : ¬ (300 : Int) < (A.length : Int) := by omega
  clear hA hi hz0 hz1 hz2
  go_enter Try.func4, Try.ntmps4
  go_wp2_with fail
  refine HK.out.mono ?_
  rintro e w1 ⟨rfl, hb1⟩
  have hA1 := HA.out.below hb1
  have hB1 := blk_new w1 #[byV kd, .slice none 0 0] 42
  have hb2 : Below w.heap.size w (w1.alloc (.cells #[byV kd, .slice none 0 0] 42)) := hb1.alloc hb1.size _
  have HA1 := Lib.hid hA1
  have HBk := Lib.hid hB1
  have Hb2 := Lib.hid hb2
  have hz := hb1.size
  clear hb1 hA1 hB1 hb2 HK HA
  go_wp2
  go_loopw [8] (fun i wr => ∃ (k : Nat) (va : Option Addr) (vc : Nat), i = .int .i64 (k : Int) ∧ k ≤ ts % 300 ∧ Blk wr w1.heap.size #[byV kd, .slice va (rep A k).length vc] 42 ∧ wr.ownsRow (w1.heap.size + 1) 5 1 (.slice va (rep A k).length vc) (rep A k).length (Lib.byteCells (rep A k)) ∧ Below w.heap.size w wr ∧ Below w1.heap.size w1 wr) (fun i _ => ts % 300 - (intOf i).toNat)
  case atStart => exact ⟨0, none, 0, rfl, Nat.zero_le _, HBk.out, World.ownsRow_nil _ _ _ _, Hb2.out, below_cells _⟩
  case round =>
    obtain ⟨k, va, vc, rfl, hk, hBr, hOr, hBe, hBf⟩ := hrel
    have hrl := rep_len A k
    have hz2 := hBe.size
    have hwr := (Array.getElem?_eq_some_iff.1 hBr).1
    obtain ⟨P, hP⟩ : ∃ P, rep A k = P := ⟨_, rfl⟩
    have hsc := rep_succ A k
    rw [hP] at hBr hOr hrl hsc
    have hPl : P.length ≤ 89700 := by
      rw [hrl]
      exact Nat.le_trans (Nat.mul_le_mul (show k ≤ 299 by omega) hl) (by decide)
    have cBr := (At.of_block hBr).f2
    have HS := Lib.hid hsc
    have HBr := Lib.hid hBr
    have HOr := Lib.hid hOr
    have HBe := Lib.hid hBe
    have hAr : BysC wr aa A.length ac A := HA1.out.below hBf
    clear hBr hOr hBe hsc hrl
    by_cases hlt : k < ts % 300
    · have q1 : (k : Int) < (ts : Int) % 300 := by omega
      cases aa with
      | none =>
        have hc0 : ac = 0 := HA1.out.nil rfl
        have hd0 : A = [] := List.eq_nil_of_length_eq_zero (by have := HA1.out.le; omega)
        have hrun : ∀ ty, (Builtin.append_ #[22, 22] ty #[.slice va P.length vc, .slice none A.length ac]).run Try.prog wr = .ok (.slice va P.length vc) wr := fun ty => by
          rw [hc0, hd0]
          exact run_append_owned_none (P := Try.prog) (w := wr) (w1.heap.size + 1) 22 ty 5 i0 1 Try.underlying22 HI.out _ _ _ HOr.out
        have HRN := Lib.hid hrun
        have hPA : P ++ A = P := by rw [hd0, List.append_nil]
        have HPA := Lib.hid hPA
        clear hrun hPA hd0 hc0
        have hO3 : (wr.setCell ⟨w1.heap.size, 1, none⟩ (.slice va P.length vc)).ownsRow (w1.heap.size + 1) 5 1 (.slice va P.length vc) P.length (Lib.byteCells P) := HOr.out.kept (grownBy_set wr _ 1 _) (.inr (row_ne (B := w1.heap.size) HOr.out (by omega)))
        have hB3 : Blk (wr.setCell ⟨w1.heap.size, 1, none⟩ (.slice va P.length vc)) w1.heap.size #[byV kd, .slice va P.length vc] 42 := blk_set HBr.out 1 _
        have hb3 : Below w.heap.size w (wr.setCell ⟨w1.heap.size, 1, none⟩ (.slice va P.length vc)) := HBe.out.setCell hz _
        have hb4 : Below w1.heap.size w1 (wr.setCell ⟨w1.heap.size, 1, none⟩ (.slice va P.length vc)) := hBf.setCell (Nat.le_refl _) _
        have HF := Lib.hid (And.intro hB3 (And.intro hO3 (And.intro hb3 hb4)))
        clear hO3 hB3 hb3 hb4
        go_wp2_with (at_builtin; refine Lib.wpList_append_run _ rfl _ _ _ _ rfl _ _ rfl rfl _ _ (HRN.out _) ?_)
        go_roundw
        case rel =>
          refine ⟨k + 1, va, vc, by simp, by omega, ?_⟩
          rw [HS.out, HPA.out]
          exact HF.out
        case measure => simp [intOf]; omega
      | some ad =>
        have hnews : ∀ j u, (Lib.byteCells A)[j]? = some u → wr.cell? (ad.add j) = some u := fun j u hj => by
          rcases hAr.bys with ⟨_, rfl⟩ | ⟨b, off, cap, e, hb, hcc⟩
          · simp [Lib.byteCells] at hj
          · injection e with e1
            cases e1
            rw [Addr.add_lit]
            have hjl : j < A.length := by have := (List.getElem?_eq_some_iff.1 hj).1; simpa [Lib.byteCells] using this
            rw [hcc j _ (List.getElem?_eq_getElem hjl)]
            simp only [Lib.byteCells, List.getElem?_map, List.getElem?_eq_getElem hjl, Option.map_some] at hj
            exact hj
        go_wp2_with (at_builtin; refine wpList_append_own _ rfl _ _ 22 rfl (w1.heap.size + 1) 5 i0 (.int .u8 0) 1 1 Try.underlying22 HI.out HZ.out HZ1.out HZ2.out rfl (by decide) _ _ _ rfl HOr.out ad A.length ac (Lib.byteCells A) rfl (by simp [Lib.byteCells]) hnews (by intro u hu; simp only [Lib.byteCells, List.mem_map] at hu; obtain ⟨x, _, rfl⟩ := hu; rfl) (by unfold maxLen; omega) (by omega) (by omega) ?_)
        intro v2 w2 own2 g2 _
        have hB2 := blk_grown HBr.out g2 (row_ne HOr.out (by omega))
        have cB2 := (At.of_block hB2).f2
        obtain ⟨a2, c2, rfl⟩ := own_shape own2
        have hb2 : Below w.heap.size w w2 := HBe.out.grown g2 HBe.out.size (fun q e => by have := (World.ownsRow.lt HOr.out q e).1; omega)
        have hB3 : Blk (w2.setCell ⟨w1.heap.size, 1, none⟩ (.slice a2 (P.length + A.length) c2)) w1.heap.size #[byV kd, .slice a2 (P.length + A.length) c2] 42 := blk_set hB2 1 _
        have hO3 : (w2.setCell ⟨w1.heap.size, 1, none⟩ (.slice a2 (P.length + A.length) c2)).ownsRow (w1.heap.size + 1) 5 1 (.slice a2 (P.length + A.length) c2) (P.length + A.length) (Lib.byteCells (P ++ A)) := by
          have e : Lib.byteCells (P ++ A) = Lib.byteCells P ++ Lib.byteCells A := by simp [Lib.byteCells]
          rw [e]
          exact own2.kept (grownBy_set w2 _ 1 _) (.inr (row_ne (B := w1.heap.size) own2 (by omega)))
        have hb3 : Below w.heap.size w (w2.setCell ⟨w1.heap.size, 1, none⟩ (.slice a2 (P.length + A.length) c2)) := hb2.setCell hz _
        have hb4 : Below w1.heap.size w1 (w2.setCell ⟨w1.heap.size, 1, none⟩ (.slice a2 (P.length + A.length) c2)) := (hBf.grown g2 (by omega) (fun q e => by have := (World.ownsRow.lt HOr.out q e).1; omega)).setCell (Nat.le_refl _) _
        have HF := Lib.hid (And.intro hB3 (And.intro hO3 (And.intro hb3 hb4)))
        clear hb4 own2 g2 hB2 hb2 hB3 hO3 hb3
        go_wp2
        go_roundw
        case rel =>
          refine ⟨k + 1, a2, c2, by simp, by omega, ?_⟩
          rw [HS.out, List.length_append]
          exact HF.out
        case measure => simp [intOf]; omega
    · obtain rfl : k = ts % 300 := by omega
      have q1 : ¬ ((ts % 300 : Nat) : Int) < (ts : Int) % 300 := by omega
      obtain ⟨T, hT⟩ : ∃ T, ts % 300 = T := ⟨_, rfl⟩
      have HW := Lib.hid (encode_any kd va vc P wr (BysC.of_dat ⟨HOr.out, _, _, rfl⟩) (by omega))
      rw [hT] at q1
      have HPc := Lib.hid (BysC.of_dat (B := w1.heap.size + 1) ⟨HOr.out, _, _, rfl⟩)
      by_cases hL : 65535 < P.length
      · go_wp2_with fail
        refine HW.out.mono ?_
        intro e w2 hp
        unfold EncPost at hp
        rw [if_pos hL] at hp
        obtain ⟨hb2, rfl⟩ := hp
        have hB2 := blk_grown HBr.out (grown_below hb2) (by simp)
        have cB2 := (At.of_block hB2).f2
        have cvP := text_of_bys (HPc.out.below hb2).bys
        have HRe := rencode_any kd P w2 (by omega)
        have Hb2 := Lib.hid (HBe.out.trans (hb2.mono hz2))
        have HRe := Lib.hid HRe
        clear hb2 hB2 cBr HW
        go_wp2_with fail
        refine HRe.out.mono ?_
        intro e w3 hp
        unfold REnc at hp
        rw [if_pos hL] at hp
        obtain ⟨hb3, rfl⟩ := hp
        have cvn : (convert 22 9 (.slice none 0 0)).run Try.prog w3 = .ok (.string ⟨#[]⟩) w3 := text_of_bys (.inl ⟨⟨_, _, rfl⟩, rfl⟩)
        have Hb3 := Lib.hid (Hb2.out.trans (hb3.mono Hb2.out.size))
        clear hb3 cvP HRe
        go_wp2
        go_ret
        exact ⟨rfl, Hb3.out⟩
      · by_cases h0 : kd = 0
        · have H0 := Lib.hid h0
          clear h0
          go_wp2_with fail
          refine HW.out.mono ?_
          intro e w2 hp
          unfold EncPost at hp
          rw [if_neg hL, if_pos H0.out] at hp
          obtain ⟨hb2, rfl⟩ := hp
          have hB2 := blk_grown HBr.out (grown_below hb2) (by simp)
          have cB2 := (At.of_block hB2).f2
          have cvP := text_of_bys (HPc.out.below hb2).bys
          have HRe := rencode_any kd P w2 (by omega)
          have Hb2 := Lib.hid (HBe.out.trans (hb2.mono hz2))
          have HRe := Lib.hid HRe
          clear hb2 hB2 cBr HW
          go_wp2_with fail
          refine HRe.out.mono ?_
          intro e w3 hp
          unfold REnc at hp
          rw [if_neg hL, if_pos H0.out] at hp
          obtain ⟨hb3, rfl⟩ := hp
          have cvn : (convert 22 9 (.slice none 0 0)).run Try.prog w3 = .ok (.string ⟨#[]⟩) w3 := text_of_bys (.inl ⟨⟨_, _, rfl⟩, rfl⟩)
          have Hb3 := Lib.hid (Hb2.out.trans (hb3.mono Hb2.out.size))
          clear hb3 cvP HRe
          go_wp2
          go_ret
          exact ⟨rfl, Hb3.out⟩
        · have hok : OkR (kd, P) := ⟨h0, by show P.length ≤ 65535; omega⟩
          have HOk := Lib.hid hok
          go_wp2_with fail
          refine HW.out.mono ?_
          intro e w2 hp
          obtain ⟨hb2, ea, ec, rfl, hd2⟩ := encPost_ok HOk.out hp
          have hB2 := blk_grown HBr.out (grown_below hb2) (by simp)
          have cB2 := (At.of_block hB2).f2
          have cvP := text_of_bys (HPc.out.below hb2).bys
          have HRe := rencode_any kd P w2 (by omega)
          have Hb2 := Lib.hid (HBe.out.trans (hb2.mono hz2))
          have Hk2 := Lib.hid hB2
          have HP2 := Lib.hid (HPc.out.below hb2)
          have HRe := Lib.hid HRe
          obtain ⟨E, hE⟩ : ∃ E, encR (kd, P) = E := ⟨_, rfl⟩
          have hEl : E.length = 4 + P.length := by rw [← hE]; exact encR_len _
          rw [hE] at hd2 ⊢
          have HE := Lib.hid hE
          have HD2 := Lib.hid hd2
          have HEl := Lib.hid hEl
          clear hp hb2 hB2 cBr HW hd2 hE hEl hok
          go_wp2_with fail
          refine HRe.out.mono ?_
          intro e w3 hp
          unfold REnc at hp
          rw [if_neg hL, if_neg h0, HE.out] at hp
          obtain ⟨hb3, rfl⟩ := hp
          have hd3 := dat_below HD2.out hb3
          have cvE := text_of_bys (BysC.of_dat hd3).bys
          have Hb3 := Lib.hid (Hb2.out.trans (hb3.mono Hb2.out.size))
          have hsc := scanR_all (rs := [(kd, P)]) (by intro r hr; obtain rfl := List.mem_singleton.1 hr; exact HOk.out)
          have hfl : flatE [(kd, P)] = E := by rw [← HE.out]; simp [flatE]
          rw [hfl] at hsc
          have hcE := BysC.of_dat hd3
          have HS := Lib.hid (scan_any ea E.length ec E w3 hcE.bys hcE.le (by have := HEl.out; omega))
          have Hk3 := Lib.hid (blk_grown Hk2.out (grown_below hb3) (by simp))
          have HP3 := Lib.hid (HP2.out.below hb3)
          have HSC := Lib.hid hsc
          clear hb3 hd3 cvP HRe hsc hfl hcE cB2
          go_wp2_with fail
          refine HS.out.mono ?_
          rintro e w4 ⟨vx, xs, rfl, hxs, hys, hb4⟩
          rw [HSC.out] at hxs ⊢
          have hrt := Rcs.of_ys hys
          rw [hxs] at hrt
          obtain ⟨xa, xc, rfl⟩ := hys.2.1
          have hl1 : xs.length = 1 := by rw [← List.length_map (f := Yl.r), hxs]; rfl
          rw [hl1] at hrt ⊢
          obtain ⟨rg, ro, rfl, p1, da, dc, p2, hbd⟩ : ∃ rg ro, xa = some ⟨rg, ro, none⟩ ∧ w4.cell? ⟨rg, ro, none⟩ = some (byV kd) ∧ ∃ da dc, w4.cell? ⟨rg, ro + 1, none⟩ = some (.slice da P.length dc) ∧ BysC w4 da P.length dc P := by
            rcases hrt with ⟨_, e⟩ | ⟨g, off, cap, e, hg, hc⟩
            · cases e
            · injection e with e1
              obtain ⟨a, c, h1, h2, h3⟩ := hc 0 _ rfl
              simp only [Nat.zero_mul, Nat.add_zero] at h1 h2
              exact ⟨g, off, e1, h1, a, c, h2, h3⟩
          have cv1 : ∀ q, (convert 22 9 (.slice da P.length dc)).run Try.prog (w4.drewN q) = .ok (.string ⟨P.toArray⟩) (w4.drewN q) := fun q => text_of_bys (hbd.below (below_drewN (Below.refl _ _) q)).bys
          have hP4 := HP3.out.below hb4
          have cv2 : ∀ q, (convert 22 9 (.slice va P.length vc)).run Try.prog (w4.drewN q) = .ok (.string ⟨P.toArray⟩) (w4.drewN q) := fun q => text_of_bys (hP4.below (below_drewN (Below.refl _ _) q)).bys
          have cB4 := (At.of_block (blk_grown Hk3.out (grown_below hb4) (by simp))).f2
          have e6 : (endR [(kd, P)] : Int) = (E.length : Int) := by rw [HEl.out]; rfl
          have Hb4 := Lib.hid (Hb3.out.trans (hb4.mono Hb3.out.size))
          rw [e6]
          clear hb4 hys hxs hl1 hrt hbd hP4 e6 HS cvE
          go_wp2
          go_quiet (fail)
          go_wp2
          go_ret
          exact ⟨rfl, below_drewN Hb4.out _⟩
theorem any (n0 : Int) (aa : Option Addr) (ac : Nat) (A : List UInt8) (n2 : Int) (w : World) (wk0 : (Lit.int .u8 n0).wf = true) (hA : BysC w aa A.length ac A) (_ : A.length ≤ 9223372036854775807) (wk2 : (Lit.int .u16 n2).wf = true) :
    Calls Try.prog 4 #[.int .u8 n0, .slice aa A.length ac, .int .u16 n2] w fun e w' => e = .returned (.bool true) ∧ Below w.heap.size w w' := by
  have h2 : 0 ≤ n2 ∧ n2 ≤ 65535 := by simpa [Lit.wf, IntKind.min, IntKind.max, IntKind.signed, IntKind.bits] using wk2
  obtain ⟨ts, rfl⟩ : ∃ k : Nat, n2 = (k : Int) := ⟨n2.toNat, by omega⟩
  rw [← byV_of wk0]
  by_cases h1 : A.length ≤ 300
  · exact main _ aa ac A ts w hA h1 (by omega)
  · have HK := Lib.hid (known_any w)
    have q1 : (300 : Int) < (A.length : Int) := by omega
    clear hA wk0 wk2
    go_enter Try.func4, Try.ntmps4
    go_wp2_with fail
    refine HK.out.mono ?_
    rintro e w1 ⟨rfl, hb⟩
    have HB := Lib.hid hb
    clear hb HK
    go_wp2
    go_ret
    exact ⟨rfl, HB.out⟩
end LawJournalEncode
end Go.Proofs.Yteddlpcnefogpaa
