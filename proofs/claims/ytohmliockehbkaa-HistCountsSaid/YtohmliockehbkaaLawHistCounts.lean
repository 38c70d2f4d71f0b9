/- belfrylaw13.HistCounts, walked. -/
import Derived.Test.YtohmliockehbkaaHu
namespace Go.Proofs.Ytohmliockehbkaa
open Go Go.Proofs Go.RowKit Go.Shelf
set_option maxRecDepth 100000
namespace LawHistCounts
theorem last (a c : Int) (o1 o2 : Bool) (q p : Int) (hm : o1 = true → o2 = true → q ≤ p → a ≤ c) : o1 = false ∨ o2 = false ∨ p < q ∨ (o1 = true ∧ o2 = true ∧ ¬ p < q ∧ a ≤ c) := by
  cases o1 with
  | false => exact .inl rfl
  | true =>
    cases o2 with
    | false => exact .inr (.inl rfl)
    | true =>
      by_cases h : p < q
      · exact .inr (.inr (.inl h))
      · exact .inr (.inr (.inr ⟨rfl, rfl, h, hm rfl rfl (by omega)⟩))
set_option maxHeartbeats 16000000 in
theorem any (a : Option Addr) (c : Nat) (l : List Int) (q p : Int) (w : World) (hN : Ns .u16 w a l) (hx : ∀ y ∈ l, 0 ≤ y ∧ y ≤ 65535) (hq : I64 q) (hp : I64 p) :
    Calls Try.prog 4 #[.slice a l.length c, .int .i64 q, .int .i64 p] w fun e w' => e = .returned (.bool true) ∧ Below w.heap.size w w' := by
  have K := Lib.hid (known_any w)
  go_enter Try.func4, Try.ntmps4
  by_cases hbig : 65 < l.length
  · have hb1 : (65 : Int) < (l.length : Int) := by omega
    go_wp2_with fail
    refine K.out.mono ?_
    rintro e w1 ⟨rfl, hb⟩
    go_wp2
    go_ret
    exact ⟨rfl, hb⟩
  have hb1 : ¬ (65 : Int) < (l.length : Int) := by omega
  have hz := zeroH
  have hz2 := zeroR
  have hzs := hc_size zs65
  have hzn := hc_ne zs65_len
  go_wp2_with fail
  refine K.out.mono ?_
  rintro e w1 ⟨rfl, hb⟩
  have N1 := Lib.hid (hN.below hb)
  have HX := Lib.hid hx
  clear hN hx K
  obtain ⟨n, hn⟩ : ∃ n, l.length = n := ⟨_, rfl⟩
  have HL := Lib.hid hn
  rw [hn] at hbig hb1 ⊢
  clear hn
  go_wp2
  have A0 := (hat_new w1 25 zs65_len).alloc (.cells (hc zs65) 24)
  have C0 := hat_new (w1.alloc (.cells (hc zs65) 25)) 24 zs65_len
  rw [World.size_alloc] at C0
  have b0 : Below w1.heap.size w1 ((w1.alloc (.cells (hc zs65) 25)).alloc (.cells (hc zs65) 24)) := below_new (below_cells _) _
  rw [← rowL_zero l] at A0 C0
  clear hz hz2 hzs hzn
  rw [show hc zs65 = hc (rowL l 0) by rw [rowL_zero]] at b0 ⊢
  generalize (w1.alloc (.cells (hc (rowL l 0)) 25)).alloc (.cells (hc (rowL l 0)) 24) = W0 at *
  go_loopw [9] (fun i wr => ∃ k : Nat, k ≤ n ∧ i = .int .i64 (k : Int) ∧ HAt 25 wr w1.heap.size (rowL l k) ∧ HAt 24 wr (w1.heap.size + 1) (rowL l k) ∧ Below w1.heap.size w1 wr) (fun i _ => n - (intOf i).toNat)
  case atStart => exact ⟨0, by omega, rfl, A0, C0, b0⟩
  case round =>
    clear A0 C0 b0
    obtain ⟨k, hk, rfl, hA, hC, hB⟩ := hrel
    by_cases hkn : k < n
    · obtain ⟨x, hx⟩ := getD_len (l := l) (j := k) (by rw [HL.out]; exact hkn)
      obtain ⟨b, off, rfl, hbl, hc1⟩ := N1.out.at hx
      have hc0 := (hB.cell (p := ⟨b, off + k, none⟩) hbl).trans hc1
      obtain ⟨x0, x1⟩ := HX.out x (List.mem_of_getElem? hx)
      have hw : wrap64 x = x := wr64 (by omega) (by omega)
      have hw2 : IntKind.i64.wrap x = x := by rw [IntKind.wrap_i64]; first | omega | exact hw
      have hrl := rowL_len (l := l) (by rw [HL.out]; omega) (k := k) (by rw [HL.out]; exact hk)
      have cA := hA.cell (nth_some (h := rowL l k) (i := k) (by rw [hrl]; omega))
      have fA := hA.free k
      have cC := hC.cell (nth_some (h := rowL l k) (i := k) (by rw [hrl]; omega))
      have fC := hC.free k
      have hk65 : (k : Int) < 65 := by omega
      have hAC : w1.heap.size ≠ w1.heap.size + 1 := by omega
      have hbA : b ≠ w1.heap.size := by omega
      have hrs := rowL_set (l := l) (by rw [HL.out]; omega) hx
      have HR := Lib.hid hrs
      clear hc1 hrs
      go_wp2
      clear hw hw2
      go_roundw
      case rel =>
        refine ⟨k + 1, by omega, rfl, ?_, ?_, (hB.setCell (Nat.le_refl _) _).setCell (Nat.le_succ _) _⟩
        · rw [← HR.out]; exact (hA.set k x).far (by omega) _
        · rw [← HR.out]; exact (hC.far (by omega) _).set k x
      case measure => simp [intOf]; omega
    · obtain rfl : k = n := by omega
      have hs : Small (rowL l k) := by
        have := rowL_small (l := l) (by rw [HL.out]; omega) HX.out
        rwa [HL.out] at this
      have hkz : ¬ (k : Int) < (k : Int) := by omega
      have bB : Below w.heap.size w wr := below_then hb hB
      have Q1 := Lib.hid (fun W => quant_any (rowL l k) hs q W)
      have Q2 := Lib.hid (fun W => rcounts_any (rowL l k) hs q W)
      have Q3 := Lib.hid (fun W => quant_any (rowL l k) hs p W)
      have HM : Hid (∀ {a1 c1 : Int}, quantR (rowL l k) q = (a1, true) → quantR (rowL l k) p = (c1, true) → q ≤ p → a1 ≤ c1) := fun h1 h2 h3 => quant_mono hs h1 h2 h3
      obtain ⟨a1, o1, e1⟩ : ∃ a1 o1, quantR (rowL l k) q = (a1, o1) := ⟨_, _, rfl⟩
      obtain ⟨a2, o2, e2⟩ : ∃ a2 o2, quantR (rowL l k) p = (a2, o2) := ⟨_, _, rfl⟩
      rw [e1] at Q1 Q2
      rw [e2] at Q3
      have hlast := last a1 a2 o1 o2 q p (fun h1 h2 h3 => HM.out (by rw [e1, h1]) (by rw [e2, h2]) h3)
      have HLa := Lib.hid hlast
      clear hlast HM e1 e2 hs hB hb HX N1
      go_wp2_with (first | (refine ld_row rowH hA rfl rfl rfl ?_) | fail)
      refine (Q1.out _).mono ?_
      rintro e w3 ⟨rfl, hb3⟩
      have hC3 := hC.below hb3
      have hA3 := hA.below hb3
      have bB3 := below_then bB hb3
      clear hA hC hb3 bB
      unfold qV
      dsimp only
      go_wp2_with (first | (refine ld_row rowR hC3 rfl rfl rfl ?_) | fail)
      refine (Q2.out _).mono ?_
      rintro e w4 ⟨rfl, hb4⟩
      have hA4 := hA3.below hb4
      have bB4 := below_then bB3 hb4
      clear hA3 hC3 hb4 bB3
      unfold qV
      dsimp only
      go_wp2_with (first | (refine ld_row rowH hA4 rfl rfl rfl ?_) | fail)
      refine (Q3.out _).mono ?_
      rintro e w5 ⟨rfl, hb5⟩
      have bB5 := below_then bB4 hb5
      clear hA4 hb5 bB4
      unfold qV
      dsimp only
      rcases HLa.out with h1 | h1 | h1 | ⟨h1, h2, h3, h4⟩
      · subst h1
        go_wp2
        all_goals (go_ret; exact ⟨rfl, bB5⟩)
      · subst h1
        cases o1 <;> go_wp2
        all_goals (go_ret; exact ⟨rfl, bB5⟩)
      · cases o1 <;> cases o2 <;> go_wp2
        all_goals (go_ret; exact ⟨rfl, bB5⟩)
      · subst h1 h2
        go_wp2
        all_goals (go_ret; exact ⟨rfl, bB5⟩)
end LawHistCounts
end Go.Proofs.Ytohmliockehbkaa
