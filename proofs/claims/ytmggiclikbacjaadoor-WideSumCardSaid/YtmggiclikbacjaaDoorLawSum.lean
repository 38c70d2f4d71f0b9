/- The law on sums, walked. -/
import Derived.Test.YtmggiclikbacjaaDoorSumM
import Derived.LoopTactic
namespace Go.Proofs.YtmggiclikbacjaaDoor
open Go Go.Proofs Go.RowKit
set_option maxRecDepth 100000
attribute [local go_sem] cell_set
set_option maxHeartbeats 16000000 in
theorem sum_some (B off n cap t : Nat) (l : List Int) (hn : l.length = n) (hl : n ≤ 100) (ht8 : t ≤ 255) (hd : ∀ c ∈ l, I64 c) (w : World) (ht : Tab w)
    (hB : B < w.heap.size) (hX : ∀ (k : Nat) (c : Int), l[k]? = some c → w.cell? ⟨B, off + k, none⟩ = some (.int .i64 c)) :
    Calls Tryd.prog 7 #[.slice (some ⟨B, off, none⟩) n cap, .int .u8 (t : Int)] w fun e w' => e = .returned (.bool true) ∧ Below w.heap.size w w' := by
  obtain ⟨i0, hi, hz0, hz1, hz2⟩ := info_parts info_i64
  have HI := Lib.hid hi
  have HZ := Lib.hid hz0
  have HZ1 := Lib.hid hz1
  have HZ2 := Lib.hid hz2
  have K := Lib.hid known_any
  have HT := Lib.hid ht
  have X := Lib.hid hX
  have D := Lib.hid hd
  have N := Lib.hid hn
  have OA := Lib.hid lawOf_any
  have g1 : ¬ (100 : Int) < (n : Int) := by omega
  have g2 : ¬ 100 < n := by omega
  clear hi hz0 hz1 hz2 ht hX hd hn
  go_enter Tryd.func7, Tryd.ntmps7
  go_wp2_with fail
  refine (K.out _ HT.out).mono ?_
  rintro e w1 ⟨rfl, hb1⟩
  have B1 : Below w.heap.size w w1 := hb1
  clear hb1
  go_wp2
  generalize hb5 : w1.heap.size = b5
  have H5 := Lib.hid hb5
  clear hb5
  go_loopw [6, 7] (fun v i wr => ∃ (k : Nat) (sh sl : Int), k ≤ n ∧ i = .int .i64 (k : Int) ∧ SW w b5 t l k v sh sl wr) (fun _ i _ => n - (intOf i).toNat)
  case atStart =>
    refine ⟨0, 0, 0, Nat.zero_le _, rfl, ⟨by omega, by omega, by omega, by omega⟩, by simp [val, sumL], ?_, World.ownsRow_nil _ _ _ _, below_new B1 _, ?_⟩
    · rw [← H5.out]; exact At.new w1 #[.int .i64 0, .int .u64 0] 29
    · rw [← H5.out]; exact B1.size
  case round =>
    obtain ⟨k, sh, sl, hk, rfl, hsw⟩ := hrel
    have S := Lib.hid hsw
    clear hsw
    by_cases hlt : k < n
    · have hkl : k < l.length := by rw [N.out]; exact hlt
      obtain ⟨c, hc⟩ : ∃ c, l[k] = c := ⟨_, rfl⟩
      have hcI : I64 c := by rw [← hc]; exact D.out _ (List.getElem_mem hkl)
      have a0 := S.out.box.cell 0 _ rfl
      have a1 := S.out.box.cell 1 _ rfl
      have z0 := S.out.box.free 0 _ rfl
      have z1 := S.out.box.free 1 _ rfl
      have c0 : wr.cell? ⟨B, off + k, none⟩ = some (.int .i64 c) := (S.out.bel.cell (p := ⟨B, off + k, none⟩) hB).trans (X.out k c (by rw [List.getElem?_eq_getElem hkl, hc]))
      have hkn : (k : Int) < (n : Int) := by omega
      have hk0 : (0 : Int) ≤ (k : Int) := by omega
      have hsum : sumL (l.take (k + 1)) = sumL (l.take k) + c := by rw [sumL_take l k hkl, hc]
      have bd := sumL_bd (l.take (k + 1)) (fun c hc => D.out c (List.mem_of_mem_take hc))
      have blen : (l.take (k + 1)).length ≤ 101 := by rw [List.length_take]; omega
      obtain ⟨nh, nl, ni, nv⟩ := fits_ex (v := sumL (l.take (k + 1))) (by unfold Fits; omega)
      have RO := Lib.hid (fun W => ref_of c hcI W)
      have RA := Lib.hid (fun W => ref_add_ok sh sl (c / 9223372036854775808) (c % 18446744073709551616) nh nl S.out.i (by unfold I64 at hcI; exact ⟨by omega, by omega, by omega, by omega⟩) ni (by rw [nv, hsum, S.out.eqn]; unfold I64 at hcI; unfold val; omega) W)
      have NI := Lib.hid ni
      have NV := Lib.hid nv
      clear hsum bd blen ni nv hcI hc
      go_upto_region 10 with (fail)
      go_cut [20] (fun s20 wx => At wx b5 [.int .i64 nh, .int .u64 nl] ∧ Below w.heap.size w wx ∧ wx.ownsRow (b5 + 1) 2 1 u6 k (cellsI (rot l t k)) ∧ s20 = s20)
      case first =>
        go_region_with (first
          | (go_at_call 26; refine (RO.out _).mono ?_; rintro e w2 ⟨rfl, hb2⟩; have D2 := At.below (At.drew S.out.box) hb2; have E2 : Below w.heap.size w w2 := below_then (Below.drew S.out.bel) hb2; have O2 := owns_below (w := wr.drew) S.out.own hb2; have q0 := D2.cell 0 _ rfl; have q1 := D2.cell 1 _ rfl)
          | (go_at_call 11; refine (RA.out _).mono ?_; rintro e w3 ⟨rfl, hb3⟩; have D3 := At.below D2 hb3; have E3 := below_then E2 hb3; have O3 := owns_below O2 hb3; have x0 := D3.cell 0 _ rfl; have x1 := D3.cell 1 _ rfl; have y0 := D3.free 0 _ rfl; have y1 := D3.free 1 _ rfl))
        all_goals
          go_wp2_with fail
          go_meet
          exact ⟨(D3.set 0 _).set 1 _, (E3.setCell (by exact S.out.ge) _).setCell (by exact S.out.ge) _, ownsRow_setCell_below (ownsRow_setCell_below O3 (by simp) _) (by simp) _, trivial⟩
      case rest =>
        obtain ⟨hA, hB2, hO, -⟩ := hcut
        have HA := Lib.hid hA
        have HB2 := Lib.hid hB2
        have HO := Lib.hid hO
        have hge := S.out.ge
        clear hA hB2 hO a0 a1 z0 z1 c0 RO RA S
        have hp : 0 < n := by omega
        have hml : (k + t) % n < n := Nat.mod_lt _ hp
        obtain ⟨m, hm⟩ : ∃ m, (k + t) % n = m := ⟨_, rfl⟩
        rw [hm] at hml
        obtain ⟨c2, hc2⟩ : ∃ c2, l.getD m 0 = c2 := ⟨_, rfl⟩
        have hg2 : l[m]? = some c2 := by rw [← hc2, List.getD_eq_getElem?_getD, List.getElem?_eq_getElem (by rw [N.out]; exact hml)]; rfl
        have d0 := (HB2.out.cell (p := ⟨B, off + m, none⟩) hB).trans (X.out m c2 hg2)
        have r2 : ((k : Int) + (t : Int)) % (n : Int) = (m : Int) := by rw [← hm, Int.natCast_emod, Int.natCast_add]
        have r1 : ((k : Int) + (t : Int)).tmod (n : Int) = (m : Int) := by rw [Int.tmod_eq_emod_of_nonneg (by omega)]; exact r2
        have r3 : ¬ (n : Int) = 0 := by omega
        have r4 : ((n : Int) == 0) = false := by rw [beq_eq_false_iff_ne]; exact r3
        have r5 : (m : Int) < (n : Int) := by omega
        have r6 : (0 : Int) ≤ (m : Int) := by omega
        have r7 : ¬ n = 0 := by omega
        have kt : (0 : Int) ≤ (t : Int) := by omega
        have kt2 : (t : Int) ≤ 255 := by omega
        have ROT : Hid (rot l t (k + 1) = rot l t k ++ [c2]) := by unfold Hid; rw [rot_snoc, N.out, hm, hc2]
        clear hm hc2 hg2
        go_wp2_with (at_builtin; refine wpList_append_own _ rfl (.tmp 30) (.tmp 41) 52 rfl (b5 + 1) 2 i0 (.int .i64 0) 1 8 Tryd.underlying52 HI.out HZ.out HZ1.out HZ2.out rfl (by decide) _ _ _ rfl (HO.out.alloc _) _ 1 1 [.int .i64 c2] rfl rfl ?c1 ?c2 ?c3 ?c4 ?c5 ?_)
        case c1 => intro j u hj; match j, hj with | 0, hj => simp at hj; subst hj; rw [Addr.add_lit]; simp
        case c2 => intro u hu; simp at hu; subst hu; rfl
        case c3 => unfold maxLen; omega
        case c4 => omega
        case c5 => have := HA.out.lt; simp; omega
        · intro v' w' hown hgrow _
          have E4 : Below (b5 + 1) wc w' := ((Below.refl _ _).alloc (by have := HA.out.lt; omega) _).grown hgrow (by have := HA.out.lt; simp; omega) (fun q hq => (World.ownsRow.lt HO.out q hq).1)
          have A4 : At w' b5 [.int .i64 nh, .int .u64 nl] := HA.out.belowB E4 (by omega)
          have E5 : Below w.heap.size w w' := HB2.out.trans (E4.mono (by omega))
          rw [cellsI_snoc, ← ROT.out] at hown
          have SN := Lib.hid (SW.mk NI.out NV.out A4 hown E5 hge)
          clear hown hgrow E4 A4 E5 r1 r2 r3 r4 r5 r6 r7 d0
          go_wp2
          go_roundw
          case rel => exact ⟨k + 1, nh, nl, by omega, by go_num, SN.out⟩
          case measure => simp [intOf]; omega
    · have hke : k = n := by omega
      have hge := S.out.ge
      have hlk : l.take k = l := List.take_of_length_le (by rw [N.out]; omega)
      have hv : val sh sl = sumL l := by rw [← hlk]; exact S.out.eqn
      have hI := S.out.i
      have hR : sumL (rot l t k) = sumL l := by rw [hke, ← N.out]; exact rot_sum l t
      have hdr : ∀ c ∈ rot l t k, I64 c := by
        rcases Nat.eq_zero_or_pos l.length with h0 | hp
        · have : k = 0 := by rw [hke, ← N.out]; exact h0
          subst this
          intro c hc; cases hc
        · exact rot_mem l t k hp D.out
      have SM := Lib.hid (sum_row S.out.own (rot_len l t k) (by omega) hdr hI (by rw [hR]; exact hv))
      have hSA : ∀ W, Below wr.heap.size wr W → Calls Tryd.prog 27 #[.slice (some ⟨B, off, none⟩) n cap] W fun e w' => e = .returned (.agg #[.int .i64 sh, .int .u64 sl]) ∧ Below W.heap.size W w' := by
        intro W hW
        have hBr : B < wr.heap.size := Nat.lt_of_lt_of_le hB S.out.bel.size
        refine Sum_any B off n cap l N.out (by omega) D.out W (Nat.lt_of_lt_of_le hBr hW.size) (fun j c hj => ?_) sh sl hI hv
        exact (hW.cell (p := ⟨B, off + j, none⟩) hBr).trans ((S.out.bel.cell (p := ⟨B, off + j, none⟩) hB).trans (X.out j c hj))
      have SA := Lib.hid hSA
      have hno : ¬ (k : Int) < (n : Int) := by omega
      have a0 := S.out.box.cell 0 _ rfl
      have a1 := S.out.box.cell 1 _ rfl
      have B9 := S.out.bel
      have B8 := Below.refl wr.heap.size wr
      clear hlk hv hI hR hdr hSA S hke K X D HI HZ HZ1 HZ2 N
      go_wp2_with fail
      go_region_held3 (fun w' => w'.cell? ⟨b5, 0, none⟩ = some (.int .i64 sh) ∧ w'.cell? ⟨b5, 1, none⟩ = some (.int .u64 sl) ∧ Below w.heap.size w w' ∧ Below wr.heap.size wr w')
        (first
          | ((repeat' apply And.intro) <;> first | go_cell | exact B9.drew | exact B8.drew)
          | (go_split_ands
             (repeat' apply And.intro) <;> first | (refine cell_later hb1 ?_; with_reducible assumption) | (refine below_then ?_ hb1; with_reducible assumption)))
        (first
          | (go_at_call 27; go_split_ands; (with_reducible refine (SA.out _ ?_).mono ?_); (with_reducible assumption); rintro e w1 ⟨rfl, hb1⟩)
          | (go_at_call 27; go_split_ands; (with_reducible refine (SM.out _ ?_).mono ?_); (with_reducible assumption); rintro e w1 ⟨rfl, hb1⟩)
          | (go_at_call 12; (with_reducible refine (OA.out _ _ _).mono ?_); rintro e w1 ⟨rfl, hb1⟩))
      all_goals
        rename_i hH
        have hB := hH.2.2.1
        clear hH
        go_wp2
        go_ret
        exact ⟨rfl, hB⟩

theorem Sum_empty (ao : Option Addr) (cap : Nat) (w : World) :
    Calls Tryd.prog 27 #[.slice ao 0 cap] w fun e w' => e = .returned (.agg #[.int .i64 0, .int .u64 0]) ∧ Below w.heap.size w w' := by
  go_enter Tryd.func27, Tryd.ntmps27
  go_wp2
  refine wp_loop_rounds 1 ?_
  rw [rounds_succ]
  go_wp2
  go_returns
  exact ⟨rfl, by go_grown⟩
set_option maxHeartbeats 4000000 in
theorem sum_none (ao : Option Addr) (cap t : Nat) (w : World) (ht : Tab w) :
    Calls Tryd.prog 7 #[.slice ao 0 cap, .int .u8 (t : Int)] w fun e w' => e = .returned (.bool true) ∧ Below w.heap.size w w' := by
  have K := Lib.hid known_any
  have HT := Lib.hid ht
  have OA := Lib.hid lawOf_any
  have SA := Lib.hid (Sum_empty ao cap)
  have SM := Lib.hid (Sum_empty none 0)
  clear ht
  go_enter Tryd.func7, Tryd.ntmps7
  go_wp2_with fail
  refine (K.out _ HT.out).mono ?_
  rintro e w1 ⟨rfl, hb1⟩
  have B1 : Below w.heap.size w w1 := hb1
  clear hb1
  go_wp2
  refine wp_loop_rounds 1 ?_
  rw [rounds_succ]
  go_wp2_with fail
  generalize hb5 : w1.heap.size = b5
  have DP : At (w1.alloc (.cells #[.int .i64 0, .int .u64 0] 29)) b5 [.int .i64 0, .int .u64 0] := by rw [← hb5]; exact At.new _ _ _
  have B2 := below_new B1 (.cells #[.int .i64 0, .int .u64 0] 29)
  generalize w1.alloc (.cells #[.int .i64 0, .int .u64 0] 29) = W1 at *
  have a0 := DP.cell 0 _ rfl
  have a1 := DP.cell 1 _ rfl
  clear DP B1 hb5
  go_region_held3 (fun w' => w'.cell? ⟨b5, 0, none⟩ = some (.int .i64 0) ∧ w'.cell? ⟨b5, 1, none⟩ = some (.int .u64 0) ∧ Below w.heap.size w w')
    (first
      | ((repeat' apply And.intro) <;> first | go_cell | exact B2.drew)
      | (go_split_ands
         (repeat' apply And.intro) <;> first | (refine cell_later hb1 ?_; with_reducible assumption) | (refine below_then ?_ hb1; with_reducible assumption)))
    (first
      | (go_at_call 27; (with_reducible refine (SA.out _).mono ?_); rintro e w1 ⟨rfl, hb1⟩)
      | (go_at_call 27; (with_reducible refine (SM.out _).mono ?_); rintro e w1 ⟨rfl, hb1⟩)
      | (go_at_call 12; (with_reducible refine (OA.out _ _ _).mono ?_); rintro e w1 ⟨rfl, hb1⟩))
  all_goals
    rename_i hH
    have hB := hH.2.2
    clear hH
    go_wp2
    go_ret
    exact ⟨rfl, hB⟩
theorem sum_big (ao : Option Addr) (n cap t : Nat) (hn : 100 < n) (w : World) (ht : Tab w) :
    Calls Tryd.prog 7 #[.slice ao n cap, .int .u8 (t : Int)] w fun e w' => e = .returned (.bool true) ∧ Below w.heap.size w w' := by
  have K := Lib.hid known_any
  have HT := Lib.hid ht
  have g1 : (100 : Int) < (n : Int) := by omega
  clear ht
  go_enter Tryd.func7, Tryd.ntmps7
  go_wp2_with fail
  refine (K.out _ HT.out).mono ?_
  rintro e w1 ⟨rfl, hb1⟩
  go_wp2
  go_ret
  exact ⟨rfl, hb1⟩
theorem sum_law (ao : Option Addr) (n cap : Nat) (t : Int) (ht8 : 0 ≤ t ∧ t ≤ 255) (w : World) (ht : Tab w)
    (h : (ao = none ∧ n = 0 ∧ cap = 0) ∨ ∃ (a : Addr) (zs : List Int), ao = some a ∧ n ≤ cap ∧ zs.length = cap ∧ (∀ i, i < zs.length → w.cell? (a.add i) = some (.int .i64 (zs.getD i 0))) ∧ (∀ c ∈ zs, I64 c)) :
    Calls Tryd.prog 7 #[.slice ao n cap, .int .u8 t] w fun e w' => e = .returned (.bool true) ∧ Below w.heap.size w w' := by
  obtain ⟨t, rfl⟩ := Int.eq_ofNat_of_zero_le ht8.1
  rcases Nat.eq_zero_or_pos n with h0 | hp
  · subst h0; exact sum_none ao cap t w ht
  by_cases hb : 100 < n
  · exact sum_big ao n cap t hb w ht
  rcases h with ⟨_, e, _⟩ | ⟨a, zs, rfl, hc, hz, hx, hd⟩
  · omega
  obtain ⟨b, off, spot⟩ := a
  have hspot : spot = none := by simpa [Addr.add] using World.cell?_spot (hx 0 (by omega))
  subst hspot
  have hX : ∀ j, j < zs.length → w.cell? ⟨b, off + j, none⟩ = some (.int .i64 (zs.getD j 0)) := fun j hj => by have := hx j hj; rwa [Addr.add_lit] at this
  refine sum_some b off n cap t (zs.take n) (by rw [List.length_take]; omega) (by omega) (by omega) (fun c hc' => hd c (List.mem_of_mem_take hc')) w ht (World.block_lt_of_cell? w ⟨b, off + 0, none⟩ (hX 0 (by omega))) (fun k c hk => ?_)
  have hkl := (List.getElem?_eq_some_iff.1 hk).1
  rw [List.length_take] at hkl
  rw [hX k (by omega)]
  rw [List.getElem?_take_of_lt (by omega)] at hk
  rw [List.getD_eq_getElem?_getD, hk]; rfl
end Go.Proofs.YtmggiclikbacjaaDoor
