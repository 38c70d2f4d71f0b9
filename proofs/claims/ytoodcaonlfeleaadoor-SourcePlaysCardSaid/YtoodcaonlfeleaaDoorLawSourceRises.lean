/- belfrylaw15.SourceRises: it answers true. -/
import Derived.Test.YtoodcaonlfeleaaDoorAc
namespace Go.Proofs.YtoodcaonlfeleaaDoor
open Go Go.Proofs Go.RowKit Go.Shelf
set_option maxRecDepth 100000
attribute [local go_sem] cell_set Oper.semAt_some
theorem adv_front (A : Tb) : A.front ≤ (advT A).front := by
  rw [adv_def]
  cases leastP (liveP A 16) with
  | none => exact Int.le_refl _
  | some m => unfold raiseT; dsimp only; omega
theorem tick_front (A : Tb) : A.front ≤ (tickT A).front := adv_front { A with ticks := A.ticks + 1 }
theorem put_front (A : Tb) (zs : List SLab) (t s q : Int) : A.front ≤ (putA A zs t s q).front := by
  unfold putA
  split
  · unfold putT
    exact adv_front { A with rows := A.rows.set (s - 1).toNat ⟨q, max (rowR A s).t t, A.ticks⟩ }
  · exact Int.le_refl _
theorem put_taken {A : Tb} {zs : List SLab} {t s q : Int} (h : putR A zs t s q = 0) : ¬ t < A.front := by
  unfold putR at h
  split at h
  · rename_i h1; exact absurd h h1
  · unfold putE at h
    split at h
    · cases h
    · split at h
      · cases h
      · assumption
/-- an act's cells, in every world behind -/
theorem Acs.cells {w : World} {a : Option Addr} {n c k : Nat} {L : List Ac} (h : Acs w (.slice a n c) L) {s : Ac} (hk : L[k]? = some s) :
    ∃ b off, a = some ⟨b, off, none⟩ ∧ b < w.heap.size ∧ ∀ W, Below w.heap.size w W → W.cell? ⟨b, off + k * 7, none⟩ = some (.int .i64 s.op) ∧ W.cell? ⟨b, off + k * 7 + 1, none⟩ = some (.slice s.sa s.sn s.sc) ∧ W.cell? ⟨b, off + k * 7 + 2, none⟩ = some (.int .i64 s.v) ∧ W.cell? ⟨b, off + k * 7 + 3, none⟩ = some (.int .i64 s.t) ∧ W.cell? ⟨b, off + k * 7 + 4, none⟩ = some (.int .i64 s.s) ∧ W.cell? ⟨b, off + k * 7 + 5, none⟩ = some (.int .i64 s.q) ∧ W.cell? ⟨b, off + k * 7 + 6, none⟩ = some (.int .i64 s.f) := by
  obtain ⟨b, off, e, hb, c0, c1, c2, c3, c4, c5, c6⟩ := h.at hk
  exact ⟨b, off, e, hb, fun W hW => ⟨(hW.cell (p := ⟨b, _, none⟩) hb).trans c0, (hW.cell (p := ⟨b, _, none⟩) hb).trans c1, (hW.cell (p := ⟨b, _, none⟩) hb).trans c2, (hW.cell (p := ⟨b, _, none⟩) hb).trans c3, (hW.cell (p := ⟨b, _, none⟩) hb).trans c4, (hW.cell (p := ⟨b, _, none⟩) hb).trans c5, (hW.cell (p := ⟨b, _, none⟩) hb).trans c6⟩⟩
set_option maxHeartbeats 8000000 in
theorem rises_any (a : Option Addr) (cap : Nat) (L : List Ac) (w : World) (hL : Acs w (.slice a L.length cap) L) (hO : ∀ s ∈ L, AcOK w s) :
    Calls Tryd.prog 4 #[.slice a L.length cap] w fun e w' => e = .returned (.bool true) ∧ Below w.heap.size w w' := by
  have KN := Lib.hid (known_any w)
  have N0 := Lib.hid (fun W => new_any 3 2 W)
  have hnw : Hid (NewOk 3 2) := ⟨by decide, by decide⟩
  have HL := Lib.hid hL
  have HO := Lib.hid hO
  clear hL hO
  by_cases h80 : L.length ≤ 80
  · have q0 : ¬ (80 : Int) < (L.length : Int) := by omega
    go_enter Tryd.func4, Tryd.ntmps4
    go_wp2_with fail
    refine KN.out.mono ?_
    rintro e w0 ⟨rfl, hb0⟩
    have HB0 := Lib.hid hb0
    clear hb0 KN
    go_wp2_with fail
    refine (N0.out _).mono ?_
    rintro e w1 (⟨-, rfl, hT, hb⟩ | ⟨hn, -⟩)
    rotate_left
    · exact absurd hnw.out hn
    have HT0 : Hid (TAt w1 w0.heap.size (newT 3 2)) := hT
    have HB1 := Lib.hid (below_then HB0.out hb)
    have hbw : w.heap.size ≤ w0.heap.size := HB0.out.size
    clear hT hb N0 HB0 hnw
    go_wp2
    go_loopw [5, 6] (fun i f wr => ∃ (k : Nat) (A : Tb), i = .int .i64 (k : Int) ∧ k ≤ L.length ∧ TbOk (k : Int) A ∧ TAt wr w0.heap.size A ∧ Below w.heap.size w wr) (fun i _ _ => L.length - (intOf i).toNat)
    case atStart => exact ⟨0, _, rfl, Nat.zero_le _, new_ok ⟨by decide, by decide⟩, HT0.out, HB1.out⟩
    case round =>
      obtain ⟨k, A, rfl, hk, hA, hT, hB⟩ := hrel
      by_cases hlt : k < L.length
      · obtain ⟨x, hx⟩ : ∃ x, L[k]? = some x := ⟨_, List.getElem?_eq_getElem hlt⟩
        obtain ⟨b, off, rfl, hb, hcs⟩ := HL.out.cells hx
        obtain ⟨c0, c1, c2, c3, c4, c5, c6⟩ := hcs wr hB
        have CS := Lib.hid hcs
        clear hcs
        have hk1 := (HO.out x (List.mem_of_getElem? hx)).below hB
        have FW := Lib.hid (few_any x.sa x.sn x.sc x.zs hk1.n hk1.b _ wr hk1.g)
        have h0k : (0 : Int) ≤ (k : Int) := by omega
        have h1k : (k : Int) < (L.length : Int) := by omega
        have hw1 : wrap64 ((k : Int) + 1) = (k : Int) + 1 := by rw [wr64] <;> omega
        have HB := Lib.hid hB
        have HA := Lib.hid hA
        have FR := Lib.hid (frontier_any w0.heap.size A wr hT)
        have HT := Lib.hid hT
        cases hf : fewR x.zs
        · rw [hf] at FW
          clear hx hk1 hf hB hA hT
          go_wp2_with fail
          refine FW.out.mono ?_
          rintro e w2 ⟨rfl, rfl⟩
          go_wp2
          go_ret
          exact ⟨rfl, HB.out⟩
        · obtain ⟨ss, hss, hls⟩ := hk1.short hf
          rw [hf] at FW
          have hln := hls.len
          have PT := Lib.hid (put_any w0.heap.size A hA (by omega) x.sa x.sn x.sc ss hss x.v x.t x.s x.q wr hT hls)
          have TK := Lib.hid (tick_any w0.heap.size A hA (by omega) wr hT)
          clear hx hk1 hf hB hA hT hls hss hln
          obtain ⟨op, xa, xn, xc, zs, v, t, s, q, f⟩ := x
          dsimp only at *
          unfold sampV at PT
          by_cases h1 : op = 1
          · subst h1
            have FR2 := Lib.hid (fun u (h : TAt u w0.heap.size (putA A ss t s q)) => frontier_any w0.heap.size (putA A ss t s q) u h)
            have PF := Lib.hid (put_front A ss t s q)
            have PO := Lib.hid (putA_ok HA.out ss t s q)
            have PK := Lib.hid (fun h => put_taken (A := A) (zs := ss) (t := t) (s := s) (q := q) h)
            unfold PutPost at PT
            generalize putA A ss t s q = A2 at *
            generalize putR A ss t s q = c at *
            go_wp2_with fail
            refine FW.out.mono ?_
            rintro e w2 ⟨rfl, rfl⟩
            go_wp2_with fail
            refine FR.out.mono ?_
            rintro e w2 ⟨rfl, hw2⟩
            cases hw2
            go_wp2_with fail
            refine PT.out.mono ?_
            rintro e w3 ⟨rfl, hT3, hg3⟩
            have hB3 := below_g HB.out hg3 hbw (Nat.le_refl _)
            obtain ⟨d0, d1, d2, d3, d4, d5, d6⟩ := CS.out w3 hB3
            have HB3 := Lib.hid hB3
            have HT3 := Lib.hid hT3
            have pf := PF.out
            clear hT3 hB3 hg3 FW FR PT TK c0 c1 c2 c3 c4 c5 c6 PF
            have df : decide (A2.front < A.front) = false := by simpa using pf
            clear pf
            by_cases hc : c = 0
            · subst hc
              have hnt : decide (t < A.front) = false := by simpa using PK.out rfl
              clear PK
              go_wp2_with fail
              refine (FR2.out _ HT3.out).mono ?_
              rintro e w4 ⟨rfl, hw4⟩
              cases hw4
              go_wp2
              go_roundw
              case rel => exact ⟨k + 1, A2, by go_num, by omega, PO.out.mono (by omega), HT3.out, HB3.out⟩
              case measure => simp [intOf]; omega
            · have nc : (c == 0) = false := by rw [beq_eq_false_iff_ne]; exact hc
              clear PK
              go_wp2_with fail
              refine (FR2.out _ HT3.out).mono ?_
              rintro e w4 ⟨rfl, hw4⟩
              cases hw4
              go_wp2
              go_roundw
              case rel => exact ⟨k + 1, A2, by go_num, by omega, PO.out.mono (by omega), HT3.out, HB3.out⟩
              case measure => simp [intOf]; omega
          · have n1 : (op == 1) = false := by rw [beq_eq_false_iff_ne]; exact h1
            by_cases h2 : op = 2
            · subst h2
              have FR2 := Lib.hid (fun u (h : TAt u w0.heap.size (tickT A)) => frontier_any w0.heap.size (tickT A) u h)
              have PF := Lib.hid (tick_front A)
              have PO := Lib.hid (tick_ok HA.out)
              generalize tickT A = A2 at *
              go_wp2_with fail
              refine FW.out.mono ?_
              rintro e w2 ⟨rfl, rfl⟩
              go_wp2_with fail
              refine FR.out.mono ?_
              rintro e w2 ⟨rfl, hw2⟩
              cases hw2
              go_wp2_with fail
              refine TK.out.mono ?_
              rintro e w3 ⟨⟨v3, rfl⟩, hT3, hg3⟩
              have hB3 := below_g HB.out hg3 hbw (Nat.le_refl _)
              have HB3 := Lib.hid hB3
              have HT3 := Lib.hid hT3
              have pf := PF.out
              clear hT3 hB3 hg3 FW FR PT TK c0 c1 c2 c3 c4 c5 c6 PF
              have df : decide (A2.front < A.front) = false := by simpa using pf
              clear pf
              go_wp2_with fail
              refine (FR2.out _ HT3.out).mono ?_
              rintro e w4 ⟨rfl, hw4⟩
              cases hw4
              go_wp2
              go_roundw
              case rel => exact ⟨k + 1, A2, by go_num, by omega, PO.out.mono (by omega), HT3.out, HB3.out⟩
              case measure => simp [intOf]; omega
            · have n2 : (op == 2) = false := by rw [beq_eq_false_iff_ne]; exact h2
              have FR2 := Lib.hid (frontier_any w0.heap.size A wr HT.out)
              go_wp2_with fail
              refine FW.out.mono ?_
              rintro e w2 ⟨rfl, rfl⟩
              go_wp2_with fail
              refine FR.out.mono ?_
              rintro e w2 ⟨rfl, hw2⟩
              cases hw2
              go_wp2_with fail
              refine FR2.out.mono ?_
              rintro e w4 ⟨rfl, hw4⟩
              cases hw4
              go_wp2
              go_roundw
              case rel => exact ⟨k + 1, A, by go_num, by omega, HA.out.mono (by omega), HT.out, HB.out⟩
              case measure => simp [intOf]; omega
      · obtain rfl : k = L.length := by omega
        have h1k : ¬ (L.length : Int) < (L.length : Int) := by omega
        have HB := Lib.hid hB
        clear hB hA hT
        go_wp2
        go_ret
        exact ⟨rfl, HB.out⟩
  · have q0 : (80 : Int) < (L.length : Int) := by omega
    go_enter Tryd.func4, Tryd.ntmps4
    go_wp2_with fail
    refine KN.out.mono ?_
    rintro e w0 ⟨rfl, hb0⟩
    have HB0 := Lib.hid hb0
    clear hb0 KN
    go_wp2
    go_ret
    exact ⟨rfl, HB0.out⟩
end Go.Proofs.YtoodcaonlfeleaaDoor
