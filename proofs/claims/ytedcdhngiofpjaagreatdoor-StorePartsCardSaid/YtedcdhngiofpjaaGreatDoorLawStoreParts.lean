/- belfrylaw14.StoreParts: it answers true. -/
import Derived.Test.YtedcdhngiofpjaaGreatDoorSn
import Derived.Test.YtedcdhngiofpjaaGreatDoorHeldIn
namespace Go.Proofs.YtedcdhngiofpjaaGreatDoor
open Go Go.Proofs Go.RowKit Go.Shelf
set_option maxRecDepth 100000
attribute [local go_sem] cell_set Oper.semAt_some
theorem meas14 {n j : Nat} (h : j < n) : n - (intOf (.int .i64 ((j : Int) + 1))).toNat < n - (intOf (.int .i64 (j : Int))).toNat := by simp [intOf]; omega
theorem wrap14 {n : Int} (h : -9223372036854775808 ≤ n) (k : n ≤ 9223372036854775807) : wrap64 n = n := by rw [wrap64]; omega
/-- a sample's cells, in every world behind -/
theorem smps_cells {w : World} {a : Option Addr} {n c k : Nat} {L : List Smp} (h : Smps w (.slice a n c) L) {s : Smp} (hk : L[k]? = some s) :
    ∃ b off, a = some ⟨b, off, none⟩ ∧ b < w.heap.size ∧ ∀ W, Below w.heap.size w W → W.cell? ⟨b, off + k * 5, none⟩ = some (.slice s.sa s.sn s.sc) ∧ W.cell? ⟨b, off + k * 5 + 1, none⟩ = some (.int .i64 s.x.v) ∧ W.cell? ⟨b, off + k * 5 + 2, none⟩ = some (.int .i64 s.x.t) ∧ W.cell? ⟨b, off + k * 5 + 3, none⟩ = some (.int .i64 s.x.s) ∧ W.cell? ⟨b, off + k * 5 + 4, none⟩ = some (.int .i64 s.x.q) := by
  obtain ⟨b, off, e, hb, c0, c1, c2, c3, c4⟩ := h.at hk
  exact ⟨b, off, e, hb, fun W hW => ⟨(hW.cell (p := ⟨b, _, none⟩) hb).trans c0, (hW.cell (p := ⟨b, _, none⟩) hb).trans c1, (hW.cell (p := ⟨b, _, none⟩) hb).trans c2, (hW.cell (p := ⟨b, _, none⟩) hb).trans c3, (hW.cell (p := ⟨b, _, none⟩) hb).trans c4⟩⟩
theorem labs_block {n0 : Nat} {w : World} {a : Option Addr} {n c : Nat} {zs : List SLab} (h : Labs n0 w (.slice a n c) zs) (hne : zs ≠ []) : ∀ ad, a = some ad → ad.block < n0 := by
  intro ad e
  rcases h with ⟨_, q⟩ | ⟨b, off, cap, q, hb, _⟩
  · exact absurd q hne
  · injection q with q1 _ _
    rw [e] at q1
    injection q1 with q1
    rw [q1]; exact hb
abbrev zv9 : List Value := [.int .i64 0, .int .i64 0, .int .u64 0, .int .i64 0, .int .i64 0, .int .i64 0, .int .i64 0, .int .i64 0, .int .i64 0]
/-- a pane is laid into a new block: the walk stops behind it -/
theorem alst14 {ops : Array Oper} {rest : List Oper} {o1 o2 : Oper} {a : Act} {w : World} {Q : Exit → Act → World → Prop} {x y : Operand} {p : Pn} (hg1 : o1.guard = none) (ho1 : o1.op = .alloc 55) (hg2 : o2.guard = none) (ho2 : o2.op = .store 55 x y)
    (hx : (a.put o1.dst (.pointer (some ⟨w.heap.size, 0, none⟩))).eval x = .pointer (some ⟨w.heap.size, 0, none⟩)) (hy : (a.put o1.dst (.pointer (some ⟨w.heap.size, 0, none⟩))).eval y = p.V)
    (k : ∀ w2, w2.heap[w.heap.size]? = some (.cells (pnC p).toArray 55 (0, 0)) → Below w.heap.size w w2 → wpList Tryz.prog ops Q rest ((a.put o1.dst (.pointer (some ⟨w.heap.size, 0, none⟩))).put o2.dst undef) w2) : wpList Tryz.prog ops Q (o1 :: o2 :: rest) a w := by
  have key : wpList Tryz.prog ops Q (o2 :: rest) (a.put o1.dst (.pointer (some ⟨w.heap.size, 0, none⟩))) (w.alloc (.cells zv9.toArray 55)) := by
    refine wpList_store_row hg2 _ x y ho2 w.heap.size (pnC p).toArray hx hy 55 zv9.toArray (heap_alloc_new w _) (by kernel_rfl) rfl (by unfold pnC; simp [Value.oneCell']) ?_
    exact k _ (setRow_heap _ _ _ _ _ _ (heap_alloc_new w _)) (below_row (below_cells _) (Nat.le_refl _) _)
  refine wpList_plain hg1 fun K hK => ?_
  unfold Oper.wp execOp
  rw [ho1]
  go_simp
  exact hK _ _ key
namespace LawStoreParts
set_option maxHeartbeats 16000000 in
theorem main (a : Option Addr) (cap : Nat) (L : List Smp) (na nb nc : Nat) (ha : na ≤ 255) (hb : nb ≤ 255) (hc : nc ≤ 255) (w : World) (hL : Smps w (.slice a L.length cap) L) (hO : ∀ s ∈ L, LabOK w s) (hx : ∀ x ∈ nums L, I64 x.v) :
    Calls Tryz.prog 4 #[.slice a L.length cap, .int .u8 (na : Int), .int .u8 (nb : Int), .int .u8 (nc : Int)] w fun e w' => e = .returned (.bool true) ∧ Below w.heap.size w w' := by
  have KN := Lib.hid (known_any w)
  have GO := Lib.hid (fun u (hb : Below w.heap.size w u) => good_all a cap L u (hL.below hb) (fun s hs => (hO s hs).below hb))
  have HL := Lib.hid hL
  have HX : Hid (∀ s ∈ L, I64 s.x.v) := fun s hs => hx _ (List.mem_map.2 ⟨s, hs, rfl⟩)
  clear hL hO hx
  go_enter Tryz.func4, Tryz.ntmps4
  go_wp2_with fail
  refine KN.out.mono ?_
  rintro e w1 ⟨rfl, hb1⟩
  go_wp2_with fail
  refine (GO.out _ hb1).mono ?_
  rintro e w2 ⟨ok, rfl, hg, hb2⟩
  have HB2 := Lib.hid (below_then hb1 hb2)
  have hw12 : w.heap.size ≤ w1.heap.size := hb1.size
  cases ok
  · clear hb1 hb2 hg
    go_wp2
    go_ret
    exact ⟨rfl, HB2.out⟩
  obtain ⟨h80, hmb⟩ := hg rfl
  have HMB : Hid (∀ s ∈ L, ∃ ss : List SLab, ss.length ≤ 100 ∧ Labs w2.heap.size w2 (.slice s.sa s.sn s.sc) ss ∧ sampR ss s.x.t s.x.s s.x.q = 0) := fun s hs => by
    obtain ⟨ss, q1, q2, q3⟩ := hmb s hs
    exact ⟨ss, q1, labs_on q2 hb2, q3⟩
  have C1 := Lib.hid (new_stoW (g := 10) (u := w2) (fun b => b < w2.heap.size) (fun _ h => h) (by omega) (by omega))
  clear hb1 hb2 hg hmb GO KN hw12
  go_wp2_with fail
  refine C1.out.mono ?_
  rintro e w3 ⟨rfl, hb3, S0, hSb, hS0, hss⟩
  have HB3 := Lib.hid (below_then HB2.out hb3)
  have hbw : w.heap.size ≤ w2.heap.size := HB2.out.size
  have HS0 := Lib.hid hS0
  have hb23 := Lib.hid hb3
  have HA0 : Hid (allN (S0.ss.map con) = 0) := by rw [hss]; rfl
  clear C1 hb3 hS0 hss
  go_wp2
  go_loopw [11, 12] (fun i _ wr => ∃ (k : Nat) (S : Sto) (R : List RowE), i = .int .i64 (k : Int) ∧ k ≤ L.length ∧ S.b = w2.heap.size ∧ StoW 10 w2.heap.size (fun b => b < w2.heap.size) wr S R ∧ allN (S.ss.map con) = k ∧ Below w.heap.size w wr ∧ Below w2.heap.size w2 wr) (fun i _ _ => L.length - (intOf i).toNat)
  case atStart => exact ⟨0, S0, [], rfl, Nat.zero_le _, hSb, HS0.out, HA0.out, HB3.out, hb23.out⟩
  case round =>
    obtain ⟨k, S, R, rfl, hk, hSk, hS, hAk, hB, hB2⟩ := hrel
    obtain ⟨wo, hwo⟩ : ∃ x, x = wr := ⟨_, rfl⟩
    subst hwo
    have HS := Lib.hid hS
    have HB := Lib.hid hB
    have HBk := Lib.hid hB2
    have HAk := Lib.hid hAk
    clear hSb HS0 HA0 HB3 hb23 hS hB hB2 hAk
    by_cases hlt : k < L.length
    · obtain ⟨s, hs⟩ : ∃ x, L[k]? = some x := ⟨_, List.getElem?_eq_getElem hlt⟩
      obtain ⟨b, off, rfl, hbl, hcs⟩ := smps_cells HL.out hs
      obtain ⟨ss, hss1, hss2, hss3⟩ := HMB.out s (List.mem_of_getElem? hs)
      have HSX := Lib.hid (HX.out s (List.mem_of_getElem? hs))
      have HCS := Lib.hid hcs
      have h0k : (0 : Int) ≤ (k : Int) := by omega
      have h1k : (k : Int) < (L.length : Int) := by omega
      have HJ := Lib.hid hlt
      have HSS := Lib.hid (And.intro hss1 (And.intro hss2 hss3))
      have hkl : Hid (k ≤ 80) := by show k ≤ 80; omega
      have hw1 : Hid (wrap64 ((k : Int) + 1) = (k : Int) + 1) := by show _ = _; rw [wrap14] <;> omega
      have HKL := Lib.hid hk
      clear hs hss1 hss2 hss3 hcs hlt hk
      go_wp2
      go_loopw [12] (fun j wr => ∃ m : Nat, j = .int .i64 (m : Int) ∧ m ≤ k ∧ Below wo.heap.size wo wr) (fun j _ => k - (intOf j).toNat)
      case atStart => exact ⟨0, rfl, Nat.zero_le _, Below.refl _ _⟩
      case round =>
        obtain ⟨m, rfl, hm, hW⟩ := hrel
        obtain ⟨wi, hwi⟩ : ∃ x, x = wr := ⟨_, rfl⟩
        subst hwi
        have HW := Lib.hid hW
        have HB4 := Lib.hid (below_then HB.out hW)
        clear hW
        by_cases hmk : m < k
        · obtain ⟨s2, hs2⟩ : ∃ x, L[m]? = some x := ⟨_, List.getElem?_eq_getElem (by have := HJ.out; omega)⟩
          obtain ⟨b', off', e1, _, hcs2⟩ := smps_cells HL.out hs2
          injection e1 with e1
          injection e1 with e1 e2
          subst e1 e2
          have HC2 := Lib.hid hcs2
          have CM := Lib.hid (fun u => lcompare_any (.slice s.sa s.sn s.sc) (.slice s2.sa s2.sn s2.sc) s.x.v s.x.t s.x.s s.x.q s2.x.v s2.x.t s2.x.s s2.x.q u)
          have m0 : (0 : Int) ≤ (m : Int) := by omega
          have m1 : (m : Int) < (L.length : Int) := by omega
          have m2 : (m : Int) < (k : Int) := by omega
          have mw : Hid (wrap64 ((m : Int) + 1) = (m : Int) + 1) := by have := hkl.out; show _ = _; rw [wrap14] <;> omega
          have HM := Lib.hid hmk
          generalize cmpS s.x.t s.x.s s.x.q s2.x.t s2.x.s s2.x.q = cc at *
          clear hs2 hcs2 hm hmk
          go_wp2_with fail
          refine wp_region_held_drew (S := fun u => Below wo.heap.size wo u) (by kernel_rfl) HW.out.drew (fun hS => ?_)
          refine tkH 0 hS ?_
          refine tkH 1 hS ?_
          refine tkH 2 (v := .pointer (some ⟨b, off + k * 5, none⟩)) hS ?_
          refine tkC 3 (v := .agg #[.slice s.sa s.sn s.sc, .int .i64 s.x.v, .int .i64 s.x.t, .int .i64 s.x.s, .int .i64 s.x.q]) hS (fun u h => HCS.out u (below_then HB.out h)) ?_
          refine tkH 4 hS ?_
          refine tkH 5 hS ?_
          refine tkH 6 (v := .pointer (some ⟨b, off + m * 5, none⟩)) hS ?_
          refine tkC 7 (v := .agg #[.slice s2.sa s2.sn s2.sc, .int .i64 s2.x.v, .int .i64 s2.x.t, .int .i64 s2.x.s, .int .i64 s2.x.q]) hS (fun u h => HC2.out u (below_then HB.out h)) ?_
          refine anyH_1 8 (fun K hK => ?_)
          go_simp
          go_at_call 28
          refine (CM.out _).mono ?_
          rintro e w5 ⟨rfl, hb5⟩
          dsimp only
          refine hK.out _ _ (below_then hS hb5) (fun hS => ?_)
          clear hK K hb5
          by_cases hcc : cc = 0
          · subst hcc
            refine tkH 9 (v := .bool true) hS ?_
            refine wpAnyH_done (by kernel_rfl) ?_ _
            have HS5 := Lib.hid hS
            clear hS
            go_wp2
            go_ret
            exact ⟨rfl, below_then HB.out HS5.out⟩
          · have ncc : (cc == 0) = false := by rw [beq_eq_false_iff_ne]; exact hcc
            refine tkH 9 (v := .bool false) hS ?_
            refine wpAnyH_done (by kernel_rfl) ?_ _
            have HS5 := Lib.hid hS
            clear hS hcc ncc
            go_wp2
            go_roundw
            case rel => exact ⟨m + 1, by first | rfl | (rw [mw.out]; rfl), HM.out, HS5.out⟩
            case measure => first | exact meas14 HM.out | (rw [mw.out]; exact meas14 HM.out)
        · obtain rfl : m = k := by omega
          have m2 : ¬ (m : Int) < (m : Int) := by omega
          obtain ⟨c0, c1, c2, c3, c4⟩ := HCS.out _ HB4.out
          have hSr := HS.out.below HW.out
          have hBr : Below w2.heap.size w2 wi := HBk.out.trans (HW.out.mono HBk.out.size)
          obtain ⟨hss1, hss2, hss3⟩ := HSS.out
          have hne : ss ≠ [] := (samp_bounds hss3).2.1
          have PU := Lib.hid (hSr.put (by omega) (by omega) s.sa s.sn s.sc ss s.x HSX.out hss3 (by rw [HAk.out]; have := hkl.out; omega) (labs_block hss2 hne) (labs_on hss2 hBr))
          rw [hSk] at PU
          have HSr := Lib.hid hSr
          have HBr := Lib.hid hBr
          clear hss1 hss2 hss3 hSr hBr hne hm hmk
          go_wp2_with fail
          refine PU.out.mono ?_
          rintro e w5 ⟨rfl, S', h1, h2, h3, h4, h5, h6⟩
          have HA' : Hid (allN (S'.ss.map con) = m + 1) := by
            have := all_put HSr.out.st ss s.x
            rw [HSr.out.grid, HAk.out] at this
            rw [h3]; exact this
          have H1 := Lib.hid h1
          have H2 : Hid (S'.b = w2.heap.size) := h2.trans hSk
          have H3 : Hid (Below w.heap.size w w5) := HB4.out.trans (h5.mono hbw)
          have H4 : Hid (Below w2.heap.size w2 w5) := HBr.out.trans h5
          clear h1 h2 h3 h4 h5 h6 PU
          go_wp2
          go_roundw
          case rel => exact ⟨m + 1, S', _, by first | rfl | (rw [hw1.out]; rfl), HJ.out, H2.out, H1.out, HA'.out, H3.out, H4.out⟩
          case measure => first | exact meas14 HJ.out | (rw [hw1.out]; exact meas14 HJ.out)
    · obtain rfl : k = L.length := by omega
      have h1k : ¬ (L.length : Int) < (L.length : Int) := by omega
      have HN : Hid (S.n = (L.length : Int)) := by have := HS.out.n; rw [HAk.out] at this; exact this
      have i1 : IntKind.i64.wrap (na : Int) = (na : Int) := by rw [IntKind.wrap_i64]; omega
      have i2 : IntKind.i64.wrap (nb : Int) = (nb : Int) := by rw [IntKind.wrap_i64]; omega
      have i3 : IntKind.i64.wrap (nc : Int) = (nc : Int) := by rw [IntKind.wrap_i64]; omega
      have HE : Hid (endsR 10 (10 * (na : Int)) (10 * (na : Int) + 10 * (nb : Int)) = 0 ∧ endsR 10 (10 * (na : Int) + 10 * (nb : Int)) (10 * (na : Int) + 10 * (nb : Int) + 10 * (nc : Int)) = 0 ∧ endsR 10 (10 * (na : Int)) (10 * (na : Int) + 10 * (nb : Int) + 10 * (nc : Int)) = 0 ∧ 10 * (na : Int) ≤ 10 * (na : Int) + 10 * (nb : Int) ∧ 10 * (na : Int) + 10 * (nb : Int) ≤ 10 * (na : Int) + 10 * (nb : Int) + 10 * (nc : Int)) := by
        unfold endsR
        refine ⟨if_neg (by omega), if_neg (by omega), if_neg (by omega), by omega, by omega⟩
      have e1 : wrap64 (10 * (na : Int)) = 10 * (na : Int) := by rw [wrap14] <;> omega
      have e2 : wrap64 (10 * (nb : Int)) = 10 * (nb : Int) := by rw [wrap14] <;> omega
      have e3 : wrap64 (10 * (nc : Int)) = 10 * (nc : Int) := by rw [wrap14] <;> omega
      have e4 : wrap64 (10 * (na : Int) + 10 * (nb : Int)) = 10 * (na : Int) + 10 * (nb : Int) := by rw [wrap14] <;> omega
      have e5 : wrap64 (10 * (na : Int) + 10 * (nb : Int) + 10 * (nc : Int)) = 10 * (na : Int) + 10 * (nb : Int) + 10 * (nc : Int) := by rw [wrap14] <;> omega
      have SE := Lib.hid (series_any S wo HS.out.st)
      have HSk := Lib.hid hSk
      rw [hSk] at SE
      clear hk hlt HMB HX h80 hSk
      go_wp2_with fail
      refine SE.out.mono ?_
      rintro e w5 ⟨v, vs, rfl, hcl, hb5⟩
      obtain ⟨gv, cv, rfl⟩ := row_slice hcl.row
      have HS5 := Lib.hid (HS.out.below hb5)
      have HB5 := Lib.hid (below_then HB.out hb5)
      have HCl := Lib.hid hcl
      have HVL : Hid (vs.length ≤ 100) := by have := hcl.len; have := HS.out.st.len; show _ ≤ _; omega
      clear hcl hb5 SE HS HB HBk e1 e2 e3 e4 e5 i1 i2 i3
      go_wp2
      go_loopw [17, 18, 19, 20, 21, 22, 23] (fun i _ _ _ _ _ _ wr => ∃ j : Nat, i = .int .i64 (j : Int) ∧ j ≤ vs.length ∧ Below w5.heap.size w5 wr) (fun i _ _ _ _ _ _ _ => vs.length - (intOf i).toNat)
      case atStart => exact ⟨0, rfl, Nat.zero_le _, Below.refl _ _⟩
      case round =>
        obtain ⟨j, rfl, hj, hW⟩ := hrel
        obtain ⟨wi, hwi⟩ : ∃ x, x = wr := ⟨_, rfl⟩
        subst hwi
        have HW := Lib.hid hW
        clear hW
        by_cases hjl : j < vs.length
        · obtain ⟨x, hx⟩ : ∃ x, vs[j]? = some x := ⟨_, List.getElem?_eq_getElem hjl⟩
          obtain ⟨en, hen⟩ : ∃ x, S.ss[j]? = some x := ⟨_, List.getElem?_eq_getElem (by have := HCl.out.len; omega)⟩
          have hrow := HCl.out.cl j x en hx hen
          obtain ⟨xa', xc', rfl⟩ := row_slice hrow
          have hck := (HS5.out.st.key en (List.mem_of_getElem? hen)).2.1
          obtain ⟨g, cp, e⟩ := own_some HCl.out.row (by omega)
          injection e with e1 e2 e3
          subst e1 e3
          clear e2
          have hgl := (World.ownsRow.lt HCl.out.row g rfl).2
          have hcell : Hid (∀ u, Below w5.heap.size w5 u → u.cell? ⟨g, j, none⟩ = some (.slice xa' en.2.ls.length xc')) := fun u hu => by
            have := World.ownsRow.cells HCl.out.row (g := g) rfl j _ hx
            rw [Addr.add_lit, Nat.zero_add] at this
            exact (hu.cell (p := ⟨g, j, none⟩) hgl).trans this
          have RG := Lib.hid (fun (f t : Int) (hb : endsR 10 f t = 0) u (hu : Below w5.heap.size w5 u) => (callsIn_wide (n := 9)).1 (range_good14 S (by rw [HS5.out.grid]; omega) xa' en.2.ls.length xc' en.2.ls (check_len hck) hck f t (by rw [HS5.out.grid]; exact hb) u (HS5.out.below hu).st (labs_on (labs_of_row9 hrow) hu)))
          rw [HSk.out] at RG
          have R1 := Lib.hid (fun u hu => RG.out (10 * (na : Int)) (10 * (na : Int) + 10 * (nb : Int)) HE.out.1 u hu)
          have R2 := Lib.hid (fun u hu => RG.out (10 * (na : Int) + 10 * (nb : Int)) (10 * (na : Int) + 10 * (nb : Int) + 10 * (nc : Int)) HE.out.2.1 u hu)
          have R3 := Lib.hid (fun u hu => RG.out (10 * (na : Int)) (10 * (na : Int) + 10 * (nb : Int) + 10 * (nc : Int)) HE.out.2.2.1 u hu)
          have b1 := rng_bd HS5.out.st en.2.ls (10 * (na : Int)) (10 * (na : Int) + 10 * (nb : Int))
          have b2 := rng_bd HS5.out.st en.2.ls (10 * (na : Int) + 10 * (nb : Int)) (10 * (na : Int) + 10 * (nb : Int) + 10 * (nc : Int))
          have MG := Lib.hid (fun u => merge_any (foldP (rngP S en.2.ls (10 * (na : Int)) (10 * (na : Int) + 10 * (nb : Int)))) (foldP (rngP S en.2.ls (10 * (na : Int) + 10 * (nb : Int)) (10 * (na : Int) + 10 * (nb : Int) + 10 * (nc : Int)))) b1.1 b2.1 (by omega) u)
          rw [fold_split HS5.out.st en.2.ls HE.out.2.2.2.1 HE.out.2.2.2.2] at MG
          have c1 := hcell.out wi HW.out
          have j0 : (0 : Int) ≤ (j : Int) := by omega
          have j1 : (j : Int) < (vs.length : Int) := by omega
          have HJ := Lib.hid hjl
          have jw : Hid (wrap64 ((j : Int) + 1) = (j : Int) + 1) := by have := HVL.out; show _ = _; rw [wrap14] <;> omega
          clear RG b1 b2 hrow hck hx hen hgl hj hjl
          generalize foldP (rngP S en.2.ls (10 * (na : Int)) (10 * (na : Int) + 10 * (nb : Int))) = p at *
          generalize foldP (rngP S en.2.ls (10 * (na : Int) + 10 * (nb : Int)) (10 * (na : Int) + 10 * (nb : Int) + 10 * (nc : Int))) = q at *
          generalize foldP (rngP S en.2.ls (10 * (na : Int)) (10 * (na : Int) + 10 * (nb : Int) + 10 * (nc : Int))) = r at *
          generalize en.2.ls.length = nl at *
          have hlt5 := HW.out.size
          go_wp2_with fail
          refine (R1.out _ HW.out).mono ?_
          rintro e w6 ⟨rfl, hb6⟩
          have B6 := Lib.hid (below_then HW.out hb6)
          clear hb6 R1 c1
          go_wp2_with (first | (refine alst14 rfl rfl rfl rfl rfl rfl ?_; intro wp hp hbp; have P1 := Lib.hid (At.of_block hp); have B7 := Lib.hid (below_then B6.out hbp); have c1 := hcell.out _ B7.out; clear hp hbp B6) | fail)
          refine (R2.out _ B7.out).mono ?_
          rintro e w7 ⟨rfl, hb7⟩
          have P1 := Lib.hid (P1.out.below hb7)
          have B8 := Lib.hid (below_then B7.out hb7)
          clear hb7 R2 c1 B7
          go_wp2_with (first | (refine alst14 rfl rfl rfl rfl rfl rfl ?_; intro wq hp hbp; have P1 := Lib.hid (P1.out.below hbp); have P2 := Lib.hid (At.of_block hp); have B9 := Lib.hid (below_then B8.out hbp); have c1 := hcell.out _ B9.out; clear hp hbp B8) | fail)
          refine (R3.out _ B9.out).mono ?_
          rintro e w8 ⟨rfl, hb8⟩
          have P1 := Lib.hid (P1.out.below hb8)
          have P2 := Lib.hid (P2.out.below hb8)
          have B10 := Lib.hid (below_then B9.out hb8)
          clear hb8 R3 c1 B9
          go_wp2_with (first | (refine alst14 rfl rfl rfl rfl rfl rfl ?_; intro ws hp hbp; have P1 := Lib.hid (P1.out.below hbp); have P2 := Lib.hid (P2.out.below hbp); have P3 := Lib.hid (At.of_block hp); have B8 := Lib.hid (below_then B10.out hbp); clear hp hbp B10) | fail)
          unfold Pn.V pnC at *
          refine wp_region_held_drew (S := fun u => At u w6.heap.size [.int .i64 p.c, .int .i64 p.h, .int .u64 p.l, .int .i64 p.mn, .int .i64 p.mx, .int .i64 p.t, .int .i64 p.s, .int .i64 p.q, .int .i64 p.v] ∧ At u w7.heap.size [.int .i64 q.c, .int .i64 q.h, .int .u64 q.l, .int .i64 q.mn, .int .i64 q.mx, .int .i64 q.t, .int .i64 q.s, .int .i64 q.q, .int .i64 q.v] ∧ At u w8.heap.size [.int .i64 r.c, .int .i64 r.h, .int .u64 r.l, .int .i64 r.mn, .int .i64 r.mx, .int .i64 r.t, .int .i64 r.s, .int .i64 r.q, .int .i64 r.v] ∧ Below w5.heap.size w5 u) (by kernel_rfl) ⟨P1.out.drew, P2.out.drew, P3.out.drew, B8.out.drew⟩ (fun hS => ?_)
          clear P1 P2 P3 B8
          have hw0 : IntKind.i64.wrap 0 = 0 := by rw [IntKind.wrap_i64]; omega
          refine tkH 0 hS ?_
          refine tkH 1 hS ?_
          refine tkH 2 (v := .int .i64 0) hS ?_
          refine tkH 3 hS ?_
          refine tkH 4 (v := .int .i64 0) hS ?_
          refine tkH 5 (v := .bool false) hS ?_
          refine tkH 6 hS ?_
          refine tkC 7 (v := .agg #[.int .i64 p.c, .int .i64 p.h, .int .u64 p.l, .int .i64 p.mn, .int .i64 p.mx, .int .i64 p.t, .int .i64 p.s, .int .i64 p.q, .int .i64 p.v]) hS (fun u h => h.1.f9) ?_
          refine tkC 8 (v := .agg #[.int .i64 q.c, .int .i64 q.h, .int .u64 q.l, .int .i64 q.mn, .int .i64 q.mx, .int .i64 q.t, .int .i64 q.s, .int .i64 q.q, .int .i64 q.v]) hS (fun u h => h.2.1.f9) ?_
          refine tkC 10 (v := .agg #[.int .i64 r.c, .int .i64 r.h, .int .u64 r.l, .int .i64 r.mn, .int .i64 r.mx, .int .i64 r.t, .int .i64 r.s, .int .i64 r.q, .int .i64 r.v]) hS (fun u h => h.2.2.1.f9) ?_
          refine anyH_1 9 (fun K hK => ?_)
          go_simp
          go_at_call 29
          refine (MG.out _).mono ?_
          rintro e w9 ⟨rfl, hb9⟩
          dsimp only
          refine hK.out _ _ ⟨hS.1.below hb9, hS.2.1.below hb9, hS.2.2.1.below hb9, below_then hS.2.2.2 hb9⟩ (fun hS => ?_)
          clear hK K hb9
          refine tkH 11 (v := .bool false) hS ?_
          refine tkH 12 (v := .bool false) hS ?_
          refine wpAnyH_done (by kernel_rfl) ?_ _
          have HW9 := Lib.hid hS.2.2.2
          clear hS
          go_wp2
          go_roundw
          case rel => exact ⟨j + 1, by first | rfl | (rw [jw.out]; rfl), HJ.out, HW9.out⟩
          case measure => first | exact meas14 HJ.out | (rw [jw.out]; exact meas14 HJ.out)
        · obtain rfl : j = vs.length := by omega
          have j1 : ¬ (vs.length : Int) < (vs.length : Int) := by omega
          have LN := Lib.hid (len_any14 S wi (HS5.out.below HW.out).st)
          rw [HSk.out, HN.out] at LN
          have HBe := Lib.hid (below_then HB5.out HW.out)
          clear hj hjl
          go_wp2_with fail
          refine LN.out.mono ?_
          rintro e w6 ⟨rfl, rfl⟩
          go_wp2
          go_ret
          exact ⟨rfl, HBe.out⟩
theorem parts_any (a : Option Addr) (cap : Nat) (L : List Smp) (x y z : Int) (hx : 0 ≤ x ∧ x ≤ 255) (hy : 0 ≤ y ∧ y ≤ 255) (hz : 0 ≤ z ∧ z ≤ 255) (w : World) (hL : Smps w (.slice a L.length cap) L) (hO : ∀ s ∈ L, LabOK w s) (hn : ∀ x ∈ nums L, I64 x.v) :
    Calls Tryz.prog 4 #[.slice a L.length cap, .int .u8 x, .int .u8 y, .int .u8 z] w fun e w' => e = .returned (.bool true) ∧ Below w.heap.size w w' := by
  obtain ⟨na, rfl⟩ := Int.eq_ofNat_of_zero_le hx.1
  obtain ⟨nb, rfl⟩ := Int.eq_ofNat_of_zero_le hy.1
  obtain ⟨nc, rfl⟩ := Int.eq_ofNat_of_zero_le hz.1
  exact main a cap L na nb nc (by omega) (by omega) (by omega) w hL hO hn
end LawStoreParts
end Go.Proofs.YtedcdhngiofpjaaGreatDoor
