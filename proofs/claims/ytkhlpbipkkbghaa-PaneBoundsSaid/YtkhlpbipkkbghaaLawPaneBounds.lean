/- belfrylaw12.PaneBounds: the walk. -/
import Derived.Test.YtkhlpbipkkbghaaKp
import Derived.Test.YtkhlpbipkkbghaaSm
import Derived.Test.YtkhlpbipkkbghaaPaV
namespace Go.Proofs.Ytkhlpbipkkbghaa
open Go Go.Proofs Go.RowKit Go.Shelf
set_option maxRecDepth 100000
attribute [local go_sem] cell_set Oper.semAt_some
namespace LawPaneBounds
def hit (p : Pn) (x : Nm) : Bool := x.v == p.v && x.t == p.t
theorem hit_snoc (p : Pn) (L : List Smp) (k : Nat) (s : Smp) (h : L[k]? = some s) : (nums (L.take (k + 1))).any (hit p) = ((nums (L.take k)).any (hit p) || hit p s.x) := by
  rw [snoc_at h, nums_app, List.any_append]
  simp [nums]
theorem ratio_lo {p : Pn} {L : List Nm} (hc : p.c = L.length) (h : Has L p) : 0 ≤ cmpI (val p.h p.l * 1) (p.mn * p.c) := by
  have := h.s0
  rw [hc, Int.mul_one]
  rcases cmpI_cases (val p.h p.l) (p.mn * (L.length : Int)) with ⟨a, b⟩ | ⟨a, b⟩ | ⟨a, b⟩ <;> omega
theorem ratio_hi {p : Pn} {L : List Nm} (hc : p.c = L.length) (h : Has L p) : cmpI (val p.h p.l * 1) (p.mx * p.c) ≤ 0 := by
  have := h.s1
  rw [hc, Int.mul_one]
  rcases cmpI_cases (val p.h p.l) (p.mx * (L.length : Int)) with ⟨a, b⟩ | ⟨a, b⟩ | ⟨a, b⟩ <;> omega
set_option maxHeartbeats 4000000 in
theorem any (aa : Option Addr) (ac : Nat) (L : List Smp) (w : World) (hL : Smps w (.slice aa L.length ac) L) (hO : ∀ s ∈ L, LabOK w s) (hx : ∀ x ∈ nums L, I64 x.v) (_ : L.length ≤ ac) :
    Calls Try.prog 6 #[.slice aa L.length ac] w fun e w' => e = .returned (.bool true) ∧ Below w.heap.size w w' := by
  have HK := Lib.hid (known_any w)
  have GO := Lib.hid (fun W (hW : Below w.heap.size w W) => good_any aa ac L W (hL.below hW) (fun s hs => (hO s hs).below hW))
  have HL := Lib.hid hL
  have HX := Lib.hid hx
  clear hL hO hx
  go_enter Try.func6, Try.ntmps6
  go_wp2_with fail
  refine HK.out.mono ?_
  rintro e w1 ⟨rfl, B⟩
  go_wp2_with fail
  refine (GO.out _ B).mono ?_
  rintro e w2 ⟨b, rfl, hg, hb⟩
  have B := below_then B hb
  clear hb HK GO
  cases b
  · go_wp2
    go_ret
    exact ⟨rfl, B⟩
  obtain ⟨h80, _⟩ := hg rfl
  clear hg
  by_cases h0 : L.length = 0
  · have n0 : ((L.length : Int) == 0) = true := by rw [beq_iff_eq]; omega
    go_wp2
    go_ret
    exact ⟨rfl, B⟩
  have n0 : ((L.length : Int) == 0) = false := by rw [beq_eq_false_iff_ne]; omega
  have hne : nums L ≠ [] := fun q => h0 (by rw [← nums_len, q]; rfl)
  have PO := Lib.hid (fun W (hW : Below w.heap.size w W) => pof_any aa ac L (by omega) HX.out W (HL.out.below hW))
  have hbd := ofR_bd (nums L) HX.out (by rw [nums_len]; omega)
  have hhas := has_of (nums L) hne
  have hcc := hbd.c
  generalize ofR (nums L) = p at *
  rw [nums_len] at hcc
  have hc1 : ¬ p.c < 1 := by omega
  have VP := Lib.hid (fun W => pval_f5 p hc1 W)
  have R1 := Lib.hid (fun W => Ratio_ok p.h p.l p.c p.mn 1 hbd.i (by omega) (by unfold I64; omega) hbd.mn (by decide) (by unfold I64; decide) W)
  have R2 := Lib.hid (fun W => Ratio_ok p.h p.l p.c p.mx 1 hbd.i (by omega) (by unfold I64; omega) hbd.mx (by decide) (by unfold I64; decide) W)
  have lo := ratio_lo (by rw [nums_len]; exact hcc) hhas
  have hi := ratio_hi (by rw [nums_len]; exact hcc) hhas
  generalize cmpI (val p.h p.l * 1) (p.mn * p.c) = ra at *
  generalize cmpI (val p.h p.l * 1) (p.mx * p.c) = rb at *
  have HH := Lib.hid hhas
  unfold valV at VP
  unfold Pn.V at *
  dsimp only at VP
  clear hbd hhas HX hne hcc hc1
  go_wp2_with fail
  refine (PO.out _ B).mono ?_
  rintro e w3 ⟨rfl, hb⟩
  have B := below_new (below_then B hb) (.cells #[.int .i64 p.c, .int .i64 p.h, .int .u64 p.l, .int .i64 p.mn, .int .i64 p.mx, .int .i64 p.t, .int .i64 p.s, .int .i64 p.q, .int .i64 p.v] 29)
  have DP := At.nw w3 [.int .i64 p.c, .int .i64 p.h, .int .u64 p.l, .int .i64 p.mn, .int .i64 p.mx, .int .i64 p.t, .int .i64 p.s, .int .i64 p.q, .int .i64 p.v] 29
  clear hb PO
  go_wp2_with fail
  refine (VP.out _).mono ?_
  rintro e w4 ⟨rfl, hb⟩
  have B := below_new (below_then B hb) (.cells #[.int .i64 p.h, .int .u64 p.l] 27)
  have DP := (DP.below hb).alloc (.cells #[.int .i64 p.h, .int .u64 p.l] 27)
  have DA := At.nw w4 [.int .i64 p.h, .int .u64 p.l] 27
  clear hb VP
  generalize w3.heap.size = xp at *
  have fP := DP.f9
  go_wp2_with fail
  refine (R1.out _).mono ?_
  rintro e w5 ⟨rfl, hb⟩
  have B := below_then B hb
  have DP := DP.below hb
  have DA := DA.below hb
  clear hb R1 fP
  generalize w4.heap.size = xa at *
  have fP := DP.f9
  have fA := DA.f2
  go_wp2_with fail
  refine (R2.out _).mono ?_
  rintro e w6 ⟨rfl, hb⟩
  have B := below_then B hb
  have DP := DP.below hb
  clear hb R2 fP fA DA
  go_wp2
  go_loopw [11, 12] (fun ob i wr => ∃ k : Nat, i = .int .i64 (k : Int) ∧ k ≤ L.length ∧ ob = .bool ((nums (L.take k)).any (hit p)) ∧ At wr xp [.int .i64 p.c, .int .i64 p.h, .int .u64 p.l, .int .i64 p.mn, .int .i64 p.mx, .int .i64 p.t, .int .i64 p.s, .int .i64 p.q, .int .i64 p.v] ∧ Below w.heap.size w wr) (fun _ i _ => L.length - (intOf i).toNat)
  case atStart => exact ⟨0, rfl, Nat.zero_le _, rfl, DP, B⟩
  case round =>
    clear DP B
    obtain ⟨k, rfl, hk, rfl, DP, B⟩ := hrel
    by_cases hlt : k < L.length
    · obtain ⟨s, hs⟩ : ∃ s, L[k]? = some s := ⟨_, List.getElem?_eq_getElem hlt⟩
      obtain ⟨b, off, rfl, hb, c0, c1, c2, c3, c4⟩ := (HL.out.below B).at hs
      have hle := HH.out.le s.x (List.mem_map_of_mem (List.mem_of_getElem? hs))
      have HN := Lib.hid (hit_snoc p L k s hs)
      obtain ⟨ob, hob⟩ : ∃ ob, (nums (L.take k)).any (hit p) = ob := ⟨_, rfl⟩
      rw [hob] at HN ⊢
      have h0k : (0 : Int) ≤ (k : Int) := by omega
      have h1k : (k : Int) < (L.length : Int) := by omega
      obtain ⟨sa, sn, sc, zs, ⟨xv, xt, xs, xq⟩⟩ := s
      dsimp only at c1 c2 hle HN
      obtain ⟨l1, l2, l3⟩ := hle
      have g1 : decide (p.t < xt) = false := by rw [decide_eq_false_iff_not]; omega
      have g2 : decide (xv < p.mn) = false := by rw [decide_eq_false_iff_not]; omega
      have g3 : decide (p.mx < xv) = false := by rw [decide_eq_false_iff_not]; omega
      have hM : At wr xp [.int .i64 p.c, .int .i64 p.h, .int .u64 p.l, .int .i64 p.mn, .int .i64 p.mx, .int .i64 p.t, .int .i64 p.s, .int .i64 p.q, .int .i64 p.v] ∧ (wr.cell? ⟨b, off + k * 5 + 1, none⟩ = some (.int .i64 xv) ∧ wr.cell? ⟨b, off + k * 5 + 2, none⟩ = some (.int .i64 xt)) ∧ Below w.heap.size w wr := ⟨DP, ⟨c1, c2⟩, B⟩
      clear hs c0 c1 c2 c3 c4 hob l1 l2 l3 DP B hb
      go_wp2_with fail
      refine wp_region_held_drew (S := fun u => At u xp [.int .i64 p.c, .int .i64 p.h, .int .u64 p.l, .int .i64 p.mn, .int .i64 p.mx, .int .i64 p.t, .int .i64 p.s, .int .i64 p.q, .int .i64 p.v] ∧ (u.cell? ⟨b, off + k * 5 + 1, none⟩ = some (.int .i64 xv) ∧ u.cell? ⟨b, off + k * 5 + 2, none⟩ = some (.int .i64 xt)) ∧ Below w.heap.size w u) (by kernel_rfl) ⟨hM.1.drew, hM.2.1, hM.2.2.drew⟩ (fun hS => ?_)
      generalize wr.drew = w0 at *
      clear hM
      cases ob
      · by_cases hv : xv = p.v
        · have e1 : (xv == p.v) = true := by rw [beq_iff_eq]; exact hv
          have HQ : Hid (hit p ⟨xv, xt, xs, xq⟩ = (xt == p.t)) := by unfold Hid hit; rw [e1]; rfl
          clear hv
          refine tkC 0 hS (fun u h => h.2.1) ?_
          refine tkC 1 hS (fun u h => h.2.1) ?_
          refine tkC 2 hS (fun u h => h.2.1) ?_
          refine tkC 3 hS (fun u h => h.2.1) ?_
          refine tkC 4 hS (fun u h => h.2.1) ?_
          refine tkC 5 hS (fun u h => h.2.1) ?_
          refine tkC 6 hS (fun u h => h.2.1) ?_
          refine tkC 7 hS (fun u h => h.1.f9) ?_
          refine tkC 8 hS (fun u h => h.1.f9) ?_
          refine tkC 9 hS (fun u h => h.2.1) ?_
          refine tkC 10 hS (fun u h => h.2.1) ?_
          refine tkC 11 hS (fun u h => h.2.1) ?_
          refine tkC 12 hS (fun u h => h.2.1) ?_
          refine tkC 13 hS (fun u h => h.2.1) ?_
          refine tkC 14 hS (fun u h => h.2.1) ?_
          refine tkC 15 hS (fun u h => h.2.1) ?_
          refine tkC 16 hS (fun u h => h.1.f9) ?_
          refine tkC 17 hS (fun u h => h.1.f9) ?_
          refine tkC 18 hS (fun u h => h.2.1) ?_
          refine tkC 19 hS (fun u h => h.2.1) ?_
          refine tkC 20 hS (fun u h => h.2.1) ?_
          refine tkC 21 hS (fun u h => h.2.1) ?_
          refine wpAnyH_done (by kernel_rfl) ?_ _
          go_wp2_with fail
          refine wp_region_held_drew (S := fun u => At u xp [.int .i64 p.c, .int .i64 p.h, .int .u64 p.l, .int .i64 p.mn, .int .i64 p.mx, .int .i64 p.t, .int .i64 p.s, .int .i64 p.q, .int .i64 p.v] ∧ (u.cell? ⟨b, off + k * 5 + 1, none⟩ = some (.int .i64 xv) ∧ u.cell? ⟨b, off + k * 5 + 2, none⟩ = some (.int .i64 xt)) ∧ Below w.heap.size w u) (by kernel_rfl) ⟨hS.1.drew, hS.2.1, hS.2.2.drew⟩ (fun hS => ?_)
          generalize w0.drew = w9 at *
          refine tkC 0 hS (fun u h => h.2.1) ?_
          refine tkC 1 hS (fun u h => h.2.1) ?_
          refine tkC 2 hS (fun u h => h.2.1) ?_
          refine tkC 3 hS (fun u h => h.2.1) ?_
          refine tkC 4 hS (fun u h => h.2.1) ?_
          refine tkC 5 hS (fun u h => h.1.f9) ?_
          refine tkC 6 hS (fun u h => h.1.f9) ?_
          refine tkC 7 hS (fun u h => h.2.1) ?_
          refine tkC 8 hS (fun u h => h.2.1) ?_
          refine tkC 9 hS (fun u h => h.2.1) ?_
          refine tkC 10 hS (fun u h => h.2.1) ?_
          refine tkC 11 hS (fun u h => h.2.1) ?_
          refine tkC 12 hS (fun u h => h.2.1) ?_
          refine tkC 13 hS (fun u h => h.2.1) ?_
          refine tkC 14 hS (fun u h => h.1.f9) ?_
          refine tkC 15 hS (fun u h => h.1.f9) ?_
          refine tkC 16 hS (fun u h => h.2.1) ?_
          refine tkC 17 hS (fun u h => h.2.1) ?_
          refine tkC 18 hS (fun u h => h.2.1) ?_
          refine tkC 19 hS (fun u h => h.2.1) ?_
          refine tkC 20 hS (fun u h => h.2.1) ?_
          refine tkC 21 hS (fun u h => h.2.1) ?_
          refine tkC 22 hS (fun u h => h.2.1) ?_
          refine tkC 23 hS (fun u h => h.2.1) ?_
          refine tkC 24 hS (fun u h => h.1.f9) ?_
          refine tkC 25 hS (fun u h => h.1.f9) ?_
          refine tkC 26 hS (fun u h => h.2.1) ?_
          refine tkC 27 hS (fun u h => h.2.1) ?_
          refine wpAnyH_done (by kernel_rfl) ?_ _
          have DP := hS.1
          have B := hS.2.2
          clear hS
          go_wp2
          go_roundw
          case rel => exact ⟨k + 1, by go_num, by omega, by rw [HN.out, HQ.out]; rfl, DP, B⟩
          case measure => simp [intOf]; omega
        · have e1 : (xv == p.v) = false := beq_false_of_ne hv
          have HQ : Hid (hit p ⟨xv, xt, xs, xq⟩ = false) := by unfold Hid hit; rw [e1]; rfl
          clear hv
          refine tkC 0 hS (fun u h => h.2.1) ?_
          refine tkC 1 hS (fun u h => h.2.1) ?_
          refine tkC 2 hS (fun u h => h.2.1) ?_
          refine tkC 3 hS (fun u h => h.2.1) ?_
          refine tkC 4 hS (fun u h => h.2.1) ?_
          refine tkC 5 hS (fun u h => h.2.1) ?_
          refine tkC 6 hS (fun u h => h.2.1) ?_
          refine tkC 7 hS (fun u h => h.1.f9) ?_
          refine tkC 8 hS (fun u h => h.1.f9) ?_
          refine tkC 9 hS (fun u h => h.2.1) ?_
          refine tkC 10 hS (fun u h => h.2.1) ?_
          refine tkS 11 hS ?_
          refine tkS 12 hS ?_
          refine tkS 13 hS ?_
          refine tkS 14 hS ?_
          refine tkS 15 hS ?_
          refine tkS 16 hS ?_
          refine tkS 17 hS ?_
          refine tkS 18 hS ?_
          refine tkC 19 hS (fun u h => h.2.1) ?_
          refine tkC 20 hS (fun u h => h.2.1) ?_
          refine tkC 21 hS (fun u h => h.2.1) ?_
          refine wpAnyH_done (by kernel_rfl) ?_ _
          go_wp2_with fail
          refine wp_region_held_drew (S := fun u => At u xp [.int .i64 p.c, .int .i64 p.h, .int .u64 p.l, .int .i64 p.mn, .int .i64 p.mx, .int .i64 p.t, .int .i64 p.s, .int .i64 p.q, .int .i64 p.v] ∧ (u.cell? ⟨b, off + k * 5 + 1, none⟩ = some (.int .i64 xv) ∧ u.cell? ⟨b, off + k * 5 + 2, none⟩ = some (.int .i64 xt)) ∧ Below w.heap.size w u) (by kernel_rfl) ⟨hS.1.drew, hS.2.1, hS.2.2.drew⟩ (fun hS => ?_)
          generalize w0.drew = w9 at *
          refine tkC 0 hS (fun u h => h.2.1) ?_
          refine tkC 1 hS (fun u h => h.2.1) ?_
          refine tkC 2 hS (fun u h => h.2.1) ?_
          refine tkC 3 hS (fun u h => h.2.1) ?_
          refine tkC 4 hS (fun u h => h.2.1) ?_
          refine tkC 5 hS (fun u h => h.1.f9) ?_
          refine tkC 6 hS (fun u h => h.1.f9) ?_
          refine tkC 7 hS (fun u h => h.2.1) ?_
          refine tkC 8 hS (fun u h => h.2.1) ?_
          refine tkC 9 hS (fun u h => h.2.1) ?_
          refine tkC 10 hS (fun u h => h.2.1) ?_
          refine tkC 11 hS (fun u h => h.2.1) ?_
          refine tkC 12 hS (fun u h => h.2.1) ?_
          refine tkC 13 hS (fun u h => h.2.1) ?_
          refine tkC 14 hS (fun u h => h.1.f9) ?_
          refine tkC 15 hS (fun u h => h.1.f9) ?_
          refine tkC 16 hS (fun u h => h.2.1) ?_
          refine tkC 17 hS (fun u h => h.2.1) ?_
          refine tkC 18 hS (fun u h => h.2.1) ?_
          refine tkC 19 hS (fun u h => h.2.1) ?_
          refine tkC 20 hS (fun u h => h.2.1) ?_
          refine tkC 21 hS (fun u h => h.2.1) ?_
          refine tkC 22 hS (fun u h => h.2.1) ?_
          refine tkC 23 hS (fun u h => h.2.1) ?_
          refine tkC 24 hS (fun u h => h.1.f9) ?_
          refine tkC 25 hS (fun u h => h.1.f9) ?_
          refine tkC 26 hS (fun u h => h.2.1) ?_
          refine tkC 27 hS (fun u h => h.2.1) ?_
          refine wpAnyH_done (by kernel_rfl) ?_ _
          have DP := hS.1
          have B := hS.2.2
          clear hS
          go_wp2
          go_roundw
          case rel => exact ⟨k + 1, by go_num, by omega, by rw [HN.out, HQ.out]; rfl, DP, B⟩
          case measure => simp [intOf]; omega
      · skip
        refine tkC 0 hS (fun u h => h.2.1) ?_
        refine tkC 1 hS (fun u h => h.2.1) ?_
        refine tkS 2 hS ?_
        refine tkS 3 hS ?_
        refine tkS 4 hS ?_
        refine tkS 5 hS ?_
        refine tkS 6 hS ?_
        refine tkS 7 hS ?_
        refine tkS 8 hS ?_
        refine tkS 9 hS ?_
        refine tkS 10 hS ?_
        refine tkS 11 hS ?_
        refine tkS 12 hS ?_
        refine tkS 13 hS ?_
        refine tkS 14 hS ?_
        refine tkS 15 hS ?_
        refine tkS 16 hS ?_
        refine tkS 17 hS ?_
        refine tkS 18 hS ?_
        refine tkS 19 hS ?_
        refine tkC 20 hS (fun u h => h.2.1) ?_
        refine tkC 21 hS (fun u h => h.2.1) ?_
        refine wpAnyH_done (by kernel_rfl) ?_ _
        go_wp2_with fail
        refine wp_region_held_drew (S := fun u => At u xp [.int .i64 p.c, .int .i64 p.h, .int .u64 p.l, .int .i64 p.mn, .int .i64 p.mx, .int .i64 p.t, .int .i64 p.s, .int .i64 p.q, .int .i64 p.v] ∧ (u.cell? ⟨b, off + k * 5 + 1, none⟩ = some (.int .i64 xv) ∧ u.cell? ⟨b, off + k * 5 + 2, none⟩ = some (.int .i64 xt)) ∧ Below w.heap.size w u) (by kernel_rfl) ⟨hS.1.drew, hS.2.1, hS.2.2.drew⟩ (fun hS => ?_)
        generalize w0.drew = w9 at *
        refine tkC 0 hS (fun u h => h.2.1) ?_
        refine tkC 1 hS (fun u h => h.2.1) ?_
        refine tkC 2 hS (fun u h => h.2.1) ?_
        refine tkC 3 hS (fun u h => h.2.1) ?_
        refine tkC 4 hS (fun u h => h.2.1) ?_
        refine tkC 5 hS (fun u h => h.1.f9) ?_
        refine tkC 6 hS (fun u h => h.1.f9) ?_
        refine tkC 7 hS (fun u h => h.2.1) ?_
        refine tkC 8 hS (fun u h => h.2.1) ?_
        refine tkC 9 hS (fun u h => h.2.1) ?_
        refine tkC 10 hS (fun u h => h.2.1) ?_
        refine tkC 11 hS (fun u h => h.2.1) ?_
        refine tkC 12 hS (fun u h => h.2.1) ?_
        refine tkC 13 hS (fun u h => h.2.1) ?_
        refine tkC 14 hS (fun u h => h.1.f9) ?_
        refine tkC 15 hS (fun u h => h.1.f9) ?_
        refine tkC 16 hS (fun u h => h.2.1) ?_
        refine tkC 17 hS (fun u h => h.2.1) ?_
        refine tkC 18 hS (fun u h => h.2.1) ?_
        refine tkC 19 hS (fun u h => h.2.1) ?_
        refine tkC 20 hS (fun u h => h.2.1) ?_
        refine tkC 21 hS (fun u h => h.2.1) ?_
        refine tkC 22 hS (fun u h => h.2.1) ?_
        refine tkC 23 hS (fun u h => h.2.1) ?_
        refine tkC 24 hS (fun u h => h.1.f9) ?_
        refine tkC 25 hS (fun u h => h.1.f9) ?_
        refine tkC 26 hS (fun u h => h.2.1) ?_
        refine tkC 27 hS (fun u h => h.2.1) ?_
        refine wpAnyH_done (by kernel_rfl) ?_ _
        have DP := hS.1
        have B := hS.2.2
        clear hS
        go_wp2
        go_roundw
        case rel => exact ⟨k + 1, by go_num, by omega, by rw [HN.out]; rfl, DP, B⟩
        case measure => simp [intOf]; omega
    · obtain rfl : k = L.length := by omega
      rw [List.take_length]
      have h1k : ¬ (L.length : Int) < (L.length : Int) := by omega
      have ha : (nums L).any (hit p) = true := by
        obtain ⟨x, hx, y1, _, _, y4⟩ := HH.out.key
        rw [List.any_eq_true]
        exact ⟨x, hx, by unfold hit; rw [y1, y4]; simp⟩
      rw [ha]
      have g1 : (0 : Int) ≤ ra := lo
      have g2 : rb ≤ 0 := hi
      clear ha DP
      go_wp2
      go_ret
      exact ⟨rfl, B⟩
end LawPaneBounds
end Go.Proofs.Ytkhlpbipkkbghaa
