/- belfrylaw12.PaneTurned: the walk. -/
import Derived.Test.YtkhlpbipkkbghaaSu
namespace Go.Proofs.Ytkhlpbipkkbghaa
open Go Go.Proofs Go.RowKit Go.Shelf
set_option maxRecDepth 100000
attribute [local go_sem] cell_set Oper.semAt_some
namespace LawPaneTurned
theorem info_smp : (Try.prog.info? 50).map (fun i => (i.zero, i.size, i.bytes)) = some (some (.agg #[.slice none 0 0, .int .i64 0, .int .i64 0, .int .i64 0, .int .i64 0]), 5, 56) := by kernel_rfl
theorem smpC_one (L : List Smp) : ∀ u ∈ smpC L, u.oneCell' = true := by
  intro u hu
  unfold smpC at hu
  obtain ⟨s, _, h⟩ := List.mem_flatMap.1 hu
  simp [Smp.C] at h
  rcases h with rfl | rfl | rfl | rfl | rfl <;> rfl
/-- the samples' cells from an address on -/
def From (W : World) (b off : Nat) (L : List Smp) : Prop := ∀ j s, L[j]? = some s → ∀ i v, s.C[i]? = some v → W.cell? ⟨b, off + j * 5 + i, none⟩ = some v
theorem From.below {W W' : World} {b off : Nat} {L : List Smp} (h : From W b off L) (hl : b < W.heap.size) (hb : Below W.heap.size W W') : From W' b off L := fun j s hj i v hi => (hb.cell (p := ⟨b, off + j * 5 + i, none⟩) hl).trans (h j s hj i v hi)
theorem From.drop {W : World} {b off : Nat} {L : List Smp} (h : From W b off L) (k : Nat) : From W b (off + k * 5) (L.drop k) := fun j s hj i v hi => by
  rw [List.getElem?_drop] at hj
  rw [show off + k * 5 + j * 5 + i = off + (k + j) * 5 + i by omega]
  exact h (k + j) s hj i v hi
theorem From.take {W : World} {b off : Nat} {L : List Smp} (h : From W b off L) (k : Nat) : From W b off (L.take k) := fun j s hj i v hi => by
  rw [List.getElem?_take] at hj
  split at hj
  · exact h j s hj i v hi
  · cases hj
theorem From.news {W : World} {b off : Nat} {L : List Smp} (h : From W b off L) : ∀ j u, (smpC L)[j]? = some u → W.cell? ((⟨b, off, none⟩ : Addr).add j) = some u := by
  intro j u hj
  have hjl := (List.getElem?_eq_some_iff.1 hj).1
  rw [smpC_len] at hjl
  obtain ⟨s, hs⟩ : ∃ s, L[j / 5]? = some s := ⟨_, List.getElem?_eq_getElem (by omega)⟩
  obtain ⟨v, hv⟩ : ∃ v, s.C[j % 5]? = some v := ⟨_, List.getElem?_eq_getElem (by show j % 5 < 5; omega)⟩
  have e := smpC_at L (j / 5) s hs (j % 5) v hv
  rw [show j / 5 * 5 + j % 5 = j by omega, hj] at e
  cases e
  have := h (j / 5) s hs (j % 5) u hv
  rw [Addr.add_lit, show off + j = off + j / 5 * 5 + j % 5 by omega]
  exact this
theorem From.c5 {W : World} {b off k : Nat} {L : List Smp} (h : From W b off L) {s : Smp} (hk : L[k]? = some s) :
    W.cell? ⟨b, off + k * 5, none⟩ = some (.slice s.sa s.sn s.sc) ∧ W.cell? ⟨b, off + k * 5 + 1, none⟩ = some (.int .i64 s.x.v) ∧ W.cell? ⟨b, off + k * 5 + 2, none⟩ = some (.int .i64 s.x.t) ∧ W.cell? ⟨b, off + k * 5 + 3, none⟩ = some (.int .i64 s.x.s) ∧ W.cell? ⟨b, off + k * 5 + 4, none⟩ = some (.int .i64 s.x.q) :=
  ⟨h k s hk 0 _ rfl, h k s hk 1 _ rfl, h k s hk 2 _ rfl, h k s hk 3 _ rfl, h k s hk 4 _ rfl⟩
theorem From.smps {W : World} {b off n cap : Nat} {L : List Smp} (h : From W b off L) (hl : b < W.heap.size) (hn : n = L.length) : Smps W (.slice (some ⟨b, off, none⟩) n cap) L := by
  subst hn
  exact .inr ⟨b, off, cap, rfl, hl, h⟩
/-- no two of the first i are alike -/
def Dif (L : List Smp) (i : Nat) : Prop := ∀ a c, a < c → c < i → ∀ x y, L[a]? = some x → L[c]? = some y → ¬ (x.x.t = y.x.t ∧ x.x.s = y.x.s ∧ x.x.q = y.x.q)
/-- none of the first k is as number i -/
def Dik (L : List Smp) (i k : Nat) : Prop := ∀ a, a < k → ∀ x y, L[a]? = some x → L[i]? = some y → ¬ (x.x.t = y.x.t ∧ x.x.s = y.x.s ∧ x.x.q = y.x.q)
theorem Dif.next {L : List Smp} {i : Nat} (h : Dif L i) (h2 : Dik L i i) : Dif L (i + 1) := fun a c hac hc x y hx hy => by
  by_cases e : c = i
  · subst e; exact h2 a hac x y hx hy
  · exact h a c hac (by omega) x y hx hy
theorem Dik.next {L : List Smp} {i k : Nat} (h : Dik L i k) {x y : Smp} (hx : L[k]? = some x) (hy : L[i]? = some y) (hne : cmpS y.x.t y.x.s y.x.q x.x.t x.x.s x.x.q ≠ 0) : Dik L i (k + 1) := fun a ha x2 y2 hx2 hy2 => by
  by_cases e : a = k
  · subst e
    rw [hx] at hx2; rw [hy] at hy2
    cases hx2; cases hy2
    exact fun q => hne (cmpS_zero.2 ⟨q.1.symm, q.2.1.symm, q.2.2.symm⟩)
  · exact h a (by omega) x2 y2 hx2 hy2
theorem Dif.apart {L : List Smp} (h : Dif L L.length) : Apart (nums L) := fun i k hik x y hx hy => by
  unfold nums at hx hy
  rw [List.getElem?_map] at hx hy
  obtain ⟨a, ha, rfl⟩ := Option.map_eq_some_iff.1 hx
  obtain ⟨c, hc, rfl⟩ := Option.map_eq_some_iff.1 hy
  exact h i k hik (List.getElem?_eq_some_iff.1 hc).1 a c ha hc
theorem apart_take {L : List Nm} (h : Apart L) (k : Nat) : Apart (L.take k) := fun i j hij x y hx hy => by
  rw [List.getElem?_take] at hx hy
  split at hx
  · split at hy
    · exact h i j hij x y hx hy
    · cases hy
  · cases hx
/-- the mathematics of it -/
theorem turned {L : List Smp} (h : Dif L L.length) (h0 : L.length ≠ 0) (k g : Nat) (hg1 : 1 ≤ g) :
    ofR (nums (L.drop k ++ L.take k)) = ofR (nums L) ∧ mergeR (ofR (nums ((L.take g).drop 1))) (ofR (nums (L.take 1))) = mergeR (ofR (nums (L.take 1))) (ofR (nums ((L.take g).drop 1))) ∧
    mergeR (mergeR (ofR (nums (L.take 1))) (ofR (nums ((L.take g).drop 1)))) (ofR (nums (L.drop g))) = mergeR (ofR (nums (L.take 1))) (mergeR (ofR (nums ((L.take g).drop 1))) (ofR (nums (L.drop g)))) := by
  have hA := h.apart
  have hne : nums L ≠ [] := fun q => h0 (by rw [← nums_len, q]; rfl)
  refine ⟨?_, ?_, merge_assoc (by rw [ofR_c]; omega) (by rw [ofR_c]; omega) (by rw [ofR_c]; omega)⟩
  · rw [nums_app, nums_drop, nums_take]
    exact ofR_turn hA hne k
  · have e : nums (L.take 1) ++ nums ((L.take g).drop 1) = (nums L).take g := by
      rw [← nums_app, ← nums_take]
      congr 1
      have q := List.take_append_drop 1 (L.take g)
      rw [List.take_take, Nat.min_eq_left hg1] at q
      exact q
    refine (parts_comm (by rw [e]; exact apart_take hA g) (.inl fun q => ?_)).symm
    have q2 := congrArg List.length q
    rw [nums_len, List.length_take, List.length_nil] at q2
    omega
def TS (p q r : Pn) (xp xq xr : Nat) (M : List Smp) (v : Value) (w u : World) : Prop := (At u xp [.int .i64 p.c, .int .i64 p.h, .int .u64 p.l, .int .i64 p.mn, .int .i64 p.mx, .int .i64 p.t, .int .i64 p.s, .int .i64 p.q, .int .i64 p.v] ∧ At u xq [.int .i64 q.c, .int .i64 q.h, .int .u64 q.l, .int .i64 q.mn, .int .i64 q.mx, .int .i64 q.t, .int .i64 q.s, .int .i64 q.q, .int .i64 q.v] ∧ At u xr [.int .i64 r.c, .int .i64 r.h, .int .u64 r.l, .int .i64 r.mn, .int .i64 r.mx, .int .i64 r.t, .int .i64 r.s, .int .i64 r.q, .int .i64 r.v]) ∧ Smps u v M ∧ Below w.heap.size w u
theorem TS.drew {p q r : Pn} {xp xq xr : Nat} {M : List Smp} {v : Value} {w u : World} (h : TS p q r xp xq xr M v w u) : TS p q r xp xq xr M v w u.drew := ⟨⟨h.1.1.drew, h.1.2.1.drew, h.1.2.2.drew⟩, h.2.1.below (Below.refl _ _).drew, h.2.2.drew⟩
theorem TS.below {p q r : Pn} {xp xq xr : Nat} {M : List Smp} {v : Value} {w u u' : World} (h : TS p q r xp xq xr M v w u) (hb : Below u.heap.size u u') : TS p q r xp xq xr M v w u' := ⟨⟨h.1.1.below hb, h.1.2.1.below hb, h.1.2.2.below hb⟩, h.2.1.below hb, below_then h.2.2 hb⟩
set_option maxHeartbeats 8000000 in
theorem main (b off : Nat) (ac : Nat) (L : List Smp) (ct : Nat) (hct : ct ≤ 255) (w : World) (hbl : b < w.heap.size) (hL : From w b off L) (hO : ∀ s ∈ L, LabOK w s) (hx : ∀ x ∈ nums L, I64 x.v) (hc : L.length ≤ ac) (h0 : L.length ≠ 0) :
    Calls Try.prog 5 #[.slice (some ⟨b, off, none⟩) L.length ac, .int .u8 (ct : Int)] w fun e w' => e = .returned (.bool true) ∧ Below w.heap.size w w' := by
  have HK := Lib.hid (known_any w)
  have GO := Lib.hid (fun W (hW : Below w.heap.size w W) => good_any (some ⟨b, off, none⟩) ac L W ((hL.smps hbl rfl).below hW) (fun s hs => (hO s hs).below hW))
  have HL := Lib.hid (fun W (hW : Below w.heap.size w W) => hL.below hbl hW)
  have HX := Lib.hid hx
  clear hL hO hx
  go_enter Try.func5, Try.ntmps5
  go_wp2_with fail
  refine HK.out.mono ?_
  rintro e w1 ⟨rfl, B⟩
  go_wp2_with fail
  refine (GO.out _ B).mono ?_
  rintro e w2 ⟨bb, rfl, hg, hb⟩
  have B := below_then B hb
  clear hb HK GO
  cases bb
  · go_wp2
    go_ret
    exact ⟨rfl, B⟩
  obtain ⟨h80, _⟩ := hg rfl
  clear hg
  have n0 : ((L.length : Int) == 0) = false := by rw [beq_eq_false_iff_ne]; omega
  go_wp2
  go_loopw [5] (fun i wr => ∃ n : Nat, i = .int .i64 (n : Int) ∧ n ≤ L.length ∧ Dif L n ∧ Below w.heap.size w wr) (fun i _ => L.length - (intOf i).toNat)
  case atStart => exact ⟨0, rfl, Nat.zero_le _, fun a c _ hc => by omega, B⟩
  case round =>
    clear B
    obtain ⟨n, rfl, hn, hD, B⟩ := hrel
    have HD := Lib.hid hD
    clear hD
    by_cases hlt : n < L.length
    · have h0n : (0 : Int) ≤ (n : Int) := by omega
      have h1n : (n : Int) < (L.length : Int) := by omega
      obtain ⟨y, hy⟩ : ∃ y, L[n]? = some y := ⟨_, List.getElem?_eq_getElem hlt⟩
      have CY := Lib.hid (fun W (hW : Below w.heap.size w W) => (HL.out W hW).c5 hy)
      have HY := Lib.hid hy
      clear hy
      go_wp2
      go_loopw [6] (fun k wr => ∃ m : Nat, k = .int .i64 (m : Int) ∧ m ≤ n ∧ Dik L n m ∧ Below w.heap.size w wr) (fun k _ => n - (intOf k).toNat)
      case atStart => exact ⟨0, rfl, Nat.zero_le _, fun a ha => by omega, B⟩
      case round =>
        clear B
        obtain ⟨m, rfl, hm, hE, B⟩ := hrel
        have HE := Lib.hid hE
        clear hE
        by_cases hlm : m < n
        · have h0m : (0 : Int) ≤ (m : Int) := by omega
          have h1m : (m : Int) < (n : Int) := by omega
          have h2m : (m : Int) < (L.length : Int) := by omega
          obtain ⟨x, hx⟩ : ∃ x, L[m]? = some x := ⟨_, List.getElem?_eq_getElem (by omega)⟩
          have CX := Lib.hid (fun W (hW : Below w.heap.size w W) => (HL.out W hW).c5 hx)
          have HN := Lib.hid (HE.out.next hx HY.out)
          clear hx
          have LC := Lib.hid (fun W => lcompare_any (.slice y.sa y.sn y.sc) (.slice x.sa x.sn x.sc) y.x.v y.x.t y.x.s y.x.q x.x.v x.x.t x.x.s x.x.q W)
          generalize cmpS y.x.t y.x.s y.x.q x.x.t x.x.s x.x.q = cc at *
          go_wp2_with fail
          refine wp_region_held_drew (S := fun u => Below w.heap.size w u) (by kernel_rfl) B.drew (fun hS => ?_)
          generalize wr.drew = w0 at *
          clear B
          refine tkC 0 hS (fun u h => h) ?_
          refine tkC 1 hS (fun u h => h) ?_
          refine tkC 2 hS (fun u h => h) ?_
          refine tkC 3 hS (fun u h => CY.out u h) ?_
          refine tkC 4 hS (fun u h => h) ?_
          refine tkC 5 hS (fun u h => h) ?_
          refine tkC 6 hS (fun u h => h) ?_
          refine tkC 7 hS (fun u h => CX.out u h) ?_
          refine anyH_1 8 (fun K hK => ?_)
          go_simp
          go_at_call 17
          refine (LC.out _).mono ?_
          rintro e w1 ⟨rfl, hb1⟩
          have hM1 := below_then hS hb1
          go_wp2_with fail
          refine hK.out _ _ hM1 (fun hS => ?_)
          clear hM1 hK K hb1
          by_cases hcc : cc = 0
          · subst hcc
            refine tkC 9 (v := .bool true) hS (fun u h => h) ?_
            refine wpAnyH_done (by kernel_rfl) ?_ _
            go_wp2
            go_ret
            exact ⟨rfl, hS⟩
          · have nc : (cc == 0) = false := beq_false_of_ne hcc
            have HN2 := Lib.hid (HN.out hcc)
            clear hcc
            refine tkC 9 (v := .bool false) hS (fun u h => h) ?_
            refine wpAnyH_done (by kernel_rfl) ?_ _
            go_wp2
            go_roundw
            case rel => exact ⟨m + 1, by go_num, by omega, HN2.out, hS⟩
            case measure => simp [intOf]; omega
        · obtain rfl : m = n := by omega
          have hq : ¬ (m : Int) < (m : Int) := by omega
          have HD2 := Lib.hid (HD.out.next HE.out)
          go_wp2
          go_roundw
          case rel => exact ⟨m + 1, by go_num, by omega, HD2.out, B⟩
          case measure => simp [intOf]; omega
    · obtain rfl : n = L.length := by omega
      have hq : ¬ (L.length : Int) < (L.length : Int) := by omega
      obtain ⟨i0, hi, hz0, hz1, hz2⟩ := info_parts info_smp
      have HI := Lib.hid hi
      have HZ := Lib.hid hz0
      have HZ1 := Lib.hid hz1
      have HZ2 := Lib.hid hz2
      clear hi hz0 hz1 hz2
      obtain ⟨k, hk⟩ : ∃ k, ct % L.length = k := ⟨_, rfl⟩
      have hkl : k < L.length := by rw [← hk]; exact Nat.mod_lt ct (by omega)
      have hmod : (ct : Int) % (L.length : Int) = (k : Int) := by rw [← hk]; simp
      have hmod2 : ((ct : Int)).tmod (L.length : Int) = (k : Int) := by rw [← hk]; exact (Int.ofNat_tmod ct L.length).symm
      have hne : ¬ ((L.length : Int) = 0) := by omega
      have hkc : (k : Int) ≤ (ac : Int) := by omega
      have hkL : (k : Int) ≤ (L.length : Int) := by omega
      have hk0 : (0 : Int) ≤ (k : Int) := by omega
      have hlc : (L.length : Int) ≤ (ac : Int) := by omega
      clear hk
      go_wp2_with fail
      refine wp_region_held_drew (S := fun u => Below w.heap.size w u) (by kernel_rfl) B.drew (fun hS => ?_)
      generalize wr.drew = w0 at *
      clear B
      refine tkC 1 hS (fun u h => h) ?_
      refine tkC 2 hS (fun u h => h) ?_
      have hak : ¬ ac = k := by omega
      refine tkC 3 (v := .slice (some ⟨b, off + k * 5, none⟩) (L.length - k) (ac - k)) hS (fun u h => h) ?_
      refine tkC 5 hS (fun u h => h) ?_
      refine tkC 6 hS (fun u h => h) ?_
      refine tkC 7 (v := .slice (some ⟨b, off, none⟩) k ac) hS (fun u h => h) ?_
      refine anyH_1 0 (fun K hK => ?_)
      go_simp
      have hM0 := below_new hS (.cells #[] 50)
      have R0 : (w0.alloc (.cells #[] 50)).ownsRow w.heap.size 50 5 (.slice (some ⟨w0.heap.size, 0, none⟩) 0 0) 0 [] := World.ownsRow_made w0 #[] 0 hS.size (by unfold maxLen; omega) rfl
      generalize w0.alloc (.cells #[] 50) = w3 at *
      generalize w0.heap.size = gb at *
      refine hK.out _ _ hM0 (fun hS => ?_)
      clear hM0 hK K
      have HR0 := Lib.hid R0
      clear R0
      refine anyH_1 4 (fun K hK => ?_)
      refine wp_append_own _ (.tmp 48) (.tmp 51) 22 rfl w.heap.size 50 i0 (.agg #[.slice none 0 0, .int .i64 0, .int .i64 0, .int .i64 0, .int .i64 0]) 5 56 Try.underlying22 HI.out HZ.out HZ1.out HZ2.out rfl (by decide) _ 0 [] rfl HR0.out ⟨b, off + k * 5, none⟩ (L.length - k) (ac - k) (smpC (L.drop k)) rfl (by rw [smpC_len, List.length_drop]) ((HL.out w3 hS).drop k).news (smpC_one _) (by unfold maxLen; omega) (by omega) hS.size ?_
      intro v1 w4 own1 g1 _
      have hM1 : Below w.heap.size w w4 := hS.grown g1 hS.size (fun q e => (World.ownsRow.lt HR0.out q e).1)
      rw [Nat.zero_add, List.nil_append] at own1
      have HR1 := Lib.hid own1
      refine hK.out _ _ hM1 (fun hS => ?_)
      clear hM1 hK K own1 g1 HR0
      simp only [Act.put, qd, qe, qf]
      refine anyH_1 8 (fun K hK => ?_)
      refine wp_append_own _ (.tmp 52) (.tmp 55) 22 rfl w.heap.size 50 i0 (.agg #[.slice none 0 0, .int .i64 0, .int .i64 0, .int .i64 0, .int .i64 0]) 5 56 Try.underlying22 HI.out HZ.out HZ1.out HZ2.out rfl (by decide) v1 (L.length - k) _ rfl HR1.out ⟨b, off, none⟩ k ac (smpC (L.take k)) rfl (by rw [smpC_len, List.length_take, Nat.min_eq_left (by omega)]) ((HL.out w4 hS).take k).news (smpC_one _) (by unfold maxLen; omega) (by omega) hS.size ?_
      intro v2 w5 own2 g2 _
      have hM1 : Below w.heap.size w w5 := hS.grown g2 hS.size (fun q e => (World.ownsRow.lt HR1.out q e).1)
      rw [← smpC_app, show L.length - k + k = (L.drop k ++ L.take k).length by rw [List.length_append, List.length_drop, List.length_take]; omega] at own2
      obtain ⟨ma, mc, rfl⟩ := row_slice own2
      have hSm := smps_of_row own2
      refine hK.out _ _ hM1 (fun hS => ?_)
      clear hM1 hK K own2 g2 HR1
      obtain ⟨M, hMM⟩ : ∃ M, L.drop k ++ L.take k = M := ⟨_, rfl⟩
      rw [hMM] at hSm ⊢
      have hMl : M.length = L.length := by rw [← hMM, List.length_append, List.length_drop, List.length_take]; omega
      have hMx : ∀ x ∈ nums M, I64 x.v := fun x h => by
        rw [← hMM, nums_app, nums_drop, nums_take] at h
        rcases List.mem_append.1 h with q | q
        · exact HX.out x (List.mem_of_mem_drop q)
        · exact HX.out x (List.mem_of_mem_take q)
      simp only [Act.put, qd, qe, qf]
      refine tkC 9 hS (fun u h => h) ?_
      refine wpAnyH_done (by kernel_rfl) ?_ _
      obtain ⟨g, hg⟩ : ∃ g, 1 + (L.length - 1) / 2 = g := ⟨_, rfl⟩
      have hgl : g ≤ L.length := by omega
      have hg1 : 1 ≤ g := by omega
      have hd1 : ((L.length : Int) - 1).tdiv 2 = (g : Int) - 1 := by rw [Int.tdiv_eq_ediv_of_nonneg (by omega)]; omega
      have hd2 : ((L.length : Int) - 1) / 2 = (g : Int) - 1 := by omega
      have hgi1 : (1 : Int) ≤ (g : Int) := by omega
      have hgic : (g : Int) ≤ (ac : Int) := by omega
      have hgil : (g : Int) ≤ (L.length : Int) := by omega
      have h1l : (1 : Int) ≤ (L.length : Int) := by omega
      obtain ⟨tm1, tm2, tm3⟩ := turned HD.out h0 k g hg1
      rw [hMM] at tm1
      have HBl : ∀ W, Below w.heap.size w W → b < W.heap.size := fun W hW => Nat.lt_of_lt_of_le hbl hW.size
      have O1 := Lib.hid (fun W (hW : Below w.heap.size w W) => pof_n (some ⟨b, off, none⟩) 1 ac (L.take 1) (by rw [List.length_take]; omega) (fun x h => HX.out x (by rw [nums_take] at h; exact List.mem_of_mem_take h)) W (((HL.out W hW).take 1).smps (HBl W hW) (by rw [List.length_take]; omega)))
      have O2 := Lib.hid (fun W (hW : Below w.heap.size w W) => pof_n (subA (some ⟨b, off, none⟩) ac 1) (g - 1) (ac - 1) ((L.take g).drop 1) (by rw [List.length_drop, List.length_take]; omega) (nums_sub HX.out 1 g) W ((((HL.out W hW).smps (cap := ac) (HBl W hW) rfl)).sub 1 g ac hg1 hgl hc))
      have O3 := Lib.hid (fun W (hW : Below w.heap.size w W) => pof_n (subA (some ⟨b, off, none⟩) ac g) (L.length - g) (ac - g) (L.drop g) (by rw [List.length_drop]; omega) (fun x h => HX.out x (by rw [nums_drop] at h; exact List.mem_of_mem_drop h)) W (by
        have := (((HL.out W hW).smps (cap := ac) (HBl W hW) rfl)).sub g L.length ac hgl (Nat.le_refl _) hc
        rw [List.take_length] at this
        exact this))
      have O4 := Lib.hid (fun W (hW : Below w.heap.size w W) => pof_n (some ⟨b, off, none⟩) L.length ac L (by omega) HX.out W ((HL.out W hW).smps (HBl W hW) rfl))
      have O5 := Lib.hid (fun W (hW : Smps W (.slice ma M.length mc) M) => pof_n ma M.length mc M (by omega) hMx W hW)
      rw [hMl] at O5 hSm
      have b1 := ofR_bd (nums (L.take 1)) (fun x h => HX.out x (by rw [nums_take] at h; exact List.mem_of_mem_take h)) (by rw [nums_len, List.length_take]; omega)
      have b2 := ofR_bd (nums ((L.take g).drop 1)) (nums_sub HX.out 1 g) (by rw [nums_len, List.length_drop, List.length_take]; omega)
      have b3 := ofR_bd (nums (L.drop g)) (fun x h => HX.out x (by rw [nums_drop] at h; exact List.mem_of_mem_drop h)) (by rw [nums_len, List.length_drop]; omega)
      rw [tm1] at O5
      have l1 : (nums (L.take 1)).length ≤ 80 := by rw [nums_len, List.length_take]; omega
      have l2 : (nums ((L.take g).drop 1)).length ≤ 80 := by rw [nums_len, List.length_drop, List.length_take]; omega
      have l3 : (nums (L.drop g)).length ≤ 80 := by rw [nums_len, List.length_drop]; omega
      generalize (nums (L.take 1)).length = z1 at *
      generalize (nums ((L.take g).drop 1)).length = z2 at *
      generalize (nums (L.drop g)).length = z3 at *
      generalize ofR (nums (L.take 1)) = p at *
      generalize ofR (nums ((L.take g).drop 1)) = q at *
      generalize ofR (nums (L.drop g)) = r at *
      generalize ofR (nums L) = t at *
      have M1 := Lib.hid (fun W => merge_any p q b1 b2 (by omega) W)
      have M2 := Lib.hid (fun W => merge_any (mergeR p q) r (b1.merge b2 (by omega)) b3 (by omega) W)
      have M3 := Lib.hid (fun W => merge_any q r b2 b3 (by omega) W)
      have M4 := Lib.hid (fun W => merge_any p (mergeR q r) b1 (b2.merge b3 (by omega)) (by omega) W)
      have M5 := Lib.hid (fun W => merge_any q p b2 b1 (by omega) W)
      rw [tm2] at M5
      rw [tm3] at M2
      generalize mergeR p (mergeR q r) = s0 at *
      generalize mergeR p q = s1 at *
      generalize mergeR q r = s2 at *
      clear b1 b2 b3 l1 l2 l3 tm1 tm2 tm3 hMM hMl hMx HX
      obtain ⟨A1, hA1⟩ : ∃ A, (if ac = 1 then some (⟨b, off, none⟩ : Addr) else some ⟨b, off + 5, none⟩) = A := ⟨_, rfl⟩
      obtain ⟨A2, hA2⟩ : ∃ A, (if ac = g then some (⟨b, off, none⟩ : Addr) else some ⟨b, off + g * 5, none⟩) = A := ⟨_, rfl⟩
      rw [show subA (some ⟨b, off, none⟩) ac 1 = A1 by rw [← hA1]; unfold subA; simp [Addr.add_lit]] at O2
      rw [show subA (some ⟨b, off, none⟩) ac g = A2 by rw [← hA2]; unfold subA; simp [Addr.add_lit]] at O3
      go_wp2_with fail
      refine (O1.out _ hS).mono ?_
      rintro e w6 ⟨rfl, hb⟩
      have hSm := hSm.below hb
      have B := below_then hS hb
      clear hb O1
      unfold Pn.V at *
      have B := below_new B (.cells #[.int .i64 p.c, .int .i64 p.h, .int .u64 p.l, .int .i64 p.mn, .int .i64 p.mx, .int .i64 p.t, .int .i64 p.s, .int .i64 p.q, .int .i64 p.v] 29)
      have hSm := hSm.below (below_cells (.cells #[.int .i64 p.c, .int .i64 p.h, .int .u64 p.l, .int .i64 p.mn, .int .i64 p.mx, .int .i64 p.t, .int .i64 p.s, .int .i64 p.q, .int .i64 p.v] 29))
      have DP := At.nw w6 [.int .i64 p.c, .int .i64 p.h, .int .u64 p.l, .int .i64 p.mn, .int .i64 p.mx, .int .i64 p.t, .int .i64 p.s, .int .i64 p.q, .int .i64 p.v] 29
      go_wp2_with fail
      refine (O2.out _ B).mono ?_
      rintro e w7 ⟨rfl, hb⟩
      have B := below_new (below_then B hb) (.cells #[.int .i64 q.c, .int .i64 q.h, .int .u64 q.l, .int .i64 q.mn, .int .i64 q.mx, .int .i64 q.t, .int .i64 q.s, .int .i64 q.q, .int .i64 q.v] 29)
      have hSm := (hSm.below hb).below (below_cells (.cells #[.int .i64 q.c, .int .i64 q.h, .int .u64 q.l, .int .i64 q.mn, .int .i64 q.mx, .int .i64 q.t, .int .i64 q.s, .int .i64 q.q, .int .i64 q.v] 29))
      have DP := (DP.below hb).alloc (.cells #[.int .i64 q.c, .int .i64 q.h, .int .u64 q.l, .int .i64 q.mn, .int .i64 q.mx, .int .i64 q.t, .int .i64 q.s, .int .i64 q.q, .int .i64 q.v] 29)
      have DQ := At.nw w7 [.int .i64 q.c, .int .i64 q.h, .int .u64 q.l, .int .i64 q.mn, .int .i64 q.mx, .int .i64 q.t, .int .i64 q.s, .int .i64 q.q, .int .i64 q.v] 29
      clear hb O2 hA1
      generalize w6.heap.size = xp at *
      by_cases hacg : ac = g
      · rw [hacg, Nat.sub_self] at O3
        rw [hacg] at O4
        rw [if_pos hacg] at hA2
        subst hA2
        go_wp2_with fail
        refine (O3.out _ B).mono ?_
        rintro e w8 ⟨rfl, hb⟩
        have hM : TS p q r xp w7.heap.size w8.heap.size M (.slice ma L.length mc) w (w8.alloc (.cells #[.int .i64 r.c, .int .i64 r.h, .int .u64 r.l, .int .i64 r.mn, .int .i64 r.mx, .int .i64 r.t, .int .i64 r.s, .int .i64 r.q, .int .i64 r.v] 29)) := ⟨⟨(DP.below hb).alloc _, (DQ.below hb).alloc _, At.nw w8 [.int .i64 r.c, .int .i64 r.h, .int .u64 r.l, .int .i64 r.mn, .int .i64 r.mx, .int .i64 r.t, .int .i64 r.s, .int .i64 r.q, .int .i64 r.v] 29⟩, (hSm.below hb).below (below_cells _), below_new (below_then B hb) _⟩
        clear hb O3 DP DQ hSm B hS
        generalize w7.heap.size = xq at *
        go_wp2_with fail
        refine wp_region_held_drew (S := TS p q r xp xq w8.heap.size M (.slice ma L.length mc) w) (by kernel_rfl) hM.drew (fun hS => ?_)
        generalize (w8.alloc (.cells #[.int .i64 r.c, .int .i64 r.h, .int .u64 r.l, .int .i64 r.mn, .int .i64 r.mx, .int .i64 r.t, .int .i64 r.s, .int .i64 r.q, .int .i64 r.v] 29)).drew = w9 at *
        generalize w8.heap.size = xr at *
        clear hM
        refine tkC 0 hS (fun u h => h.1.1.f9) ?_
        refine tkC 2 hS (fun u h => h.1.1.f9) ?_
        refine anyH_1 1 (fun K hK => ?_)
        go_simp
        go_at_call 9
        refine (O4.out _ hS.2.2).mono ?_
        rintro e w1 ⟨rfl, hb1⟩
        have hM1 := hS.below hb1
        go_wp2_with fail
        refine hK.out _ _ hM1 (fun hS => ?_)
        clear hM1 hK K hb1
        refine anyH_1 3 (fun K hK => ?_)
        go_simp
        go_at_call 9
        refine (O5.out _ hS.2.1).mono ?_
        rintro e w1 ⟨rfl, hb1⟩
        have hM1 := hS.below hb1
        go_wp2_with fail
        refine hK.out _ _ hM1 (fun hS => ?_)
        clear hM1 hK K hb1
        refine tkC 4 hS (fun u h => h.1.1.f9) ?_
        refine tkC 5 hS (fun u h => h.1.1.f9) ?_
        refine tkC 6 hS (fun u h => h.1.1.f9) ?_
        refine tkC 7 hS (fun u h => h.1.2.1.f9) ?_
        refine tkC 9 hS (fun u h => h.1.2.2.f9) ?_
        refine tkC 11 hS (fun u h => h.1.1.f9) ?_
        refine tkC 12 hS (fun u h => h.1.2.1.f9) ?_
        refine tkC 13 hS (fun u h => h.1.2.2.f9) ?_
        refine anyH_1 8 (fun K hK => ?_)
        go_simp
        go_at_call 16
        refine (M1.out _).mono ?_
        rintro e w1 ⟨rfl, hb1⟩
        have hM1 := hS.below hb1
        go_wp2_with fail
        refine hK.out _ _ hM1 (fun hS => ?_)
        clear hM1 hK K hb1
        refine anyH_1 10 (fun K hK => ?_)
        go_simp
        go_at_call 16
        refine (M2.out _).mono ?_
        rintro e w1 ⟨rfl, hb1⟩
        have hM1 := hS.below hb1
        go_wp2_with fail
        refine hK.out _ _ hM1 (fun hS => ?_)
        clear hM1 hK K hb1
        refine anyH_1 14 (fun K hK => ?_)
        go_simp
        go_at_call 16
        refine (M3.out _).mono ?_
        rintro e w1 ⟨rfl, hb1⟩
        have hM1 := hS.below hb1
        go_wp2_with fail
        refine hK.out _ _ hM1 (fun hS => ?_)
        clear hM1 hK K hb1
        refine anyH_1 15 (fun K hK => ?_)
        go_simp
        go_at_call 16
        refine (M4.out _).mono ?_
        rintro e w1 ⟨rfl, hb1⟩
        have hM1 := hS.below hb1
        go_wp2_with fail
        refine hK.out _ _ hM1 (fun hS => ?_)
        clear hM1 hK K hb1
        refine tkC 16 hS (fun u h => h.1.1.f9) ?_
        refine tkC 17 hS (fun u h => h.1.1.f9) ?_
        refine tkC 18 hS (fun u h => h.1.1.f9) ?_
        refine tkC 19 hS (fun u h => h.1.2.1.f9) ?_
        refine tkC 20 hS (fun u h => h.1.1.f9) ?_
        refine tkC 22 hS (fun u h => h.1.1.f9) ?_
        refine tkC 23 hS (fun u h => h.1.2.1.f9) ?_
        refine anyH_1 21 (fun K hK => ?_)
        go_simp
        go_at_call 16
        refine (M5.out _).mono ?_
        rintro e w1 ⟨rfl, hb1⟩
        have hM1 := hS.below hb1
        go_wp2_with fail
        refine hK.out _ _ hM1 (fun hS => ?_)
        clear hM1 hK K hb1
        refine anyH_1 24 (fun K hK => ?_)
        go_simp
        go_at_call 16
        refine (M1.out _).mono ?_
        rintro e w1 ⟨rfl, hb1⟩
        have hM1 := hS.below hb1
        go_wp2_with fail
        refine hK.out _ _ hM1 (fun hS => ?_)
        clear hM1 hK K hb1
        refine tkC 25 hS (fun u h => h.1.1.f9) ?_
        refine tkC 26 hS (fun u h => h.1.1.f9) ?_
        refine tkC 27 hS (fun u h => h.1.1.f9) ?_
        refine wpAnyH_done (by kernel_rfl) ?_ _
        have B := hS.2.2
        go_wp2
        go_ret
        exact ⟨rfl, B⟩
      · rw [if_neg hacg] at hA2
        subst hA2
        go_wp2_with fail
        refine (O3.out _ B).mono ?_
        rintro e w8 ⟨rfl, hb⟩
        have hM : TS p q r xp w7.heap.size w8.heap.size M (.slice ma L.length mc) w (w8.alloc (.cells #[.int .i64 r.c, .int .i64 r.h, .int .u64 r.l, .int .i64 r.mn, .int .i64 r.mx, .int .i64 r.t, .int .i64 r.s, .int .i64 r.q, .int .i64 r.v] 29)) := ⟨⟨(DP.below hb).alloc _, (DQ.below hb).alloc _, At.nw w8 [.int .i64 r.c, .int .i64 r.h, .int .u64 r.l, .int .i64 r.mn, .int .i64 r.mx, .int .i64 r.t, .int .i64 r.s, .int .i64 r.q, .int .i64 r.v] 29⟩, (hSm.below hb).below (below_cells _), below_new (below_then B hb) _⟩
        clear hb O3 DP DQ hSm B hS
        generalize w7.heap.size = xq at *
        go_wp2_with fail
        refine wp_region_held_drew (S := TS p q r xp xq w8.heap.size M (.slice ma L.length mc) w) (by kernel_rfl) hM.drew (fun hS => ?_)
        generalize (w8.alloc (.cells #[.int .i64 r.c, .int .i64 r.h, .int .u64 r.l, .int .i64 r.mn, .int .i64 r.mx, .int .i64 r.t, .int .i64 r.s, .int .i64 r.q, .int .i64 r.v] 29)).drew = w9 at *
        generalize w8.heap.size = xr at *
        clear hM
        refine tkC 0 hS (fun u h => h.1.1.f9) ?_
        refine tkC 2 hS (fun u h => h.1.1.f9) ?_
        refine anyH_1 1 (fun K hK => ?_)
        go_simp
        go_at_call 9
        refine (O4.out _ hS.2.2).mono ?_
        rintro e w1 ⟨rfl, hb1⟩
        have hM1 := hS.below hb1
        go_wp2_with fail
        refine hK.out _ _ hM1 (fun hS => ?_)
        clear hM1 hK K hb1
        refine anyH_1 3 (fun K hK => ?_)
        go_simp
        go_at_call 9
        refine (O5.out _ hS.2.1).mono ?_
        rintro e w1 ⟨rfl, hb1⟩
        have hM1 := hS.below hb1
        go_wp2_with fail
        refine hK.out _ _ hM1 (fun hS => ?_)
        clear hM1 hK K hb1
        refine tkC 4 hS (fun u h => h.1.1.f9) ?_
        refine tkC 5 hS (fun u h => h.1.1.f9) ?_
        refine tkC 6 hS (fun u h => h.1.1.f9) ?_
        refine tkC 7 hS (fun u h => h.1.2.1.f9) ?_
        refine tkC 9 hS (fun u h => h.1.2.2.f9) ?_
        refine tkC 11 hS (fun u h => h.1.1.f9) ?_
        refine tkC 12 hS (fun u h => h.1.2.1.f9) ?_
        refine tkC 13 hS (fun u h => h.1.2.2.f9) ?_
        refine anyH_1 8 (fun K hK => ?_)
        go_simp
        go_at_call 16
        refine (M1.out _).mono ?_
        rintro e w1 ⟨rfl, hb1⟩
        have hM1 := hS.below hb1
        go_wp2_with fail
        refine hK.out _ _ hM1 (fun hS => ?_)
        clear hM1 hK K hb1
        refine anyH_1 10 (fun K hK => ?_)
        go_simp
        go_at_call 16
        refine (M2.out _).mono ?_
        rintro e w1 ⟨rfl, hb1⟩
        have hM1 := hS.below hb1
        go_wp2_with fail
        refine hK.out _ _ hM1 (fun hS => ?_)
        clear hM1 hK K hb1
        refine anyH_1 14 (fun K hK => ?_)
        go_simp
        go_at_call 16
        refine (M3.out _).mono ?_
        rintro e w1 ⟨rfl, hb1⟩
        have hM1 := hS.below hb1
        go_wp2_with fail
        refine hK.out _ _ hM1 (fun hS => ?_)
        clear hM1 hK K hb1
        refine anyH_1 15 (fun K hK => ?_)
        go_simp
        go_at_call 16
        refine (M4.out _).mono ?_
        rintro e w1 ⟨rfl, hb1⟩
        have hM1 := hS.below hb1
        go_wp2_with fail
        refine hK.out _ _ hM1 (fun hS => ?_)
        clear hM1 hK K hb1
        refine tkC 16 hS (fun u h => h.1.1.f9) ?_
        refine tkC 17 hS (fun u h => h.1.1.f9) ?_
        refine tkC 18 hS (fun u h => h.1.1.f9) ?_
        refine tkC 19 hS (fun u h => h.1.2.1.f9) ?_
        refine tkC 20 hS (fun u h => h.1.1.f9) ?_
        refine tkC 22 hS (fun u h => h.1.1.f9) ?_
        refine tkC 23 hS (fun u h => h.1.2.1.f9) ?_
        refine anyH_1 21 (fun K hK => ?_)
        go_simp
        go_at_call 16
        refine (M5.out _).mono ?_
        rintro e w1 ⟨rfl, hb1⟩
        have hM1 := hS.below hb1
        go_wp2_with fail
        refine hK.out _ _ hM1 (fun hS => ?_)
        clear hM1 hK K hb1
        refine anyH_1 24 (fun K hK => ?_)
        go_simp
        go_at_call 16
        refine (M1.out _).mono ?_
        rintro e w1 ⟨rfl, hb1⟩
        have hM1 := hS.below hb1
        go_wp2_with fail
        refine hK.out _ _ hM1 (fun hS => ?_)
        clear hM1 hK K hb1
        refine tkC 25 hS (fun u h => h.1.1.f9) ?_
        refine tkC 26 hS (fun u h => h.1.1.f9) ?_
        refine tkC 27 hS (fun u h => h.1.1.f9) ?_
        refine wpAnyH_done (by kernel_rfl) ?_ _
        have B := hS.2.2
        go_wp2
        go_ret
        exact ⟨rfl, B⟩
set_option maxHeartbeats 4000000 in
theorem any (aa : Option Addr) (ac : Nat) (L : List Smp) (n1 : Int) (w : World) (hL : Smps w (.slice aa L.length ac) L) (hO : ∀ s ∈ L, LabOK w s) (hx : ∀ x ∈ nums L, I64 x.v) (hc : L.length ≤ ac) (wk1 : (Lit.int .u8 n1).wf = true) :
    Calls Try.prog 5 #[.slice aa L.length ac, .int .u8 n1] w fun e w' => e = .returned (.bool true) ∧ Below w.heap.size w w' := by
  have h2 : 0 ≤ n1 ∧ n1 ≤ 255 := by simpa [Lit.wf, IntKind.min, IntKind.max, IntKind.signed, IntKind.bits] using wk1
  obtain ⟨ts, rfl⟩ : ∃ k : Nat, n1 = (k : Int) := ⟨n1.toNat, by omega⟩
  by_cases h0 : L.length = 0
  · obtain rfl := List.eq_nil_of_length_eq_zero h0
    have HK := Lib.hid (known_any w)
    have GO := fun W (hW : Below w.heap.size w W) => good_any aa ac [] W (hL.below hW) (fun s hs => (hO s hs).below hW)
    simp only [List.length_nil] at GO
    have GO := Lib.hid GO
    have n0 : ((0 : Int) == 0) = true := rfl
    clear h0
    show Calls _ _ #[.slice aa 0 ac, _] _ _
    clear hL hO hx
    go_enter Try.func5, Try.ntmps5
    go_wp2_with fail
    refine HK.out.mono ?_
    rintro e w1 ⟨rfl, B⟩
    go_wp2_with fail
    refine (GO.out _ B).mono ?_
    rintro e w2 ⟨bb, rfl, hg, hb⟩
    have B := below_then B hb
    clear hb HK GO hg
    cases bb
    · go_wp2
      go_ret
      exact ⟨rfl, B⟩
    · go_wp2
      go_ret
      exact ⟨rfl, B⟩
  · rcases hL with ⟨rfl, _⟩ | ⟨b, off, cap, e, hl, hcs⟩
    · exact absurd rfl h0
    · injection e with e1 e2 e3
      subst e1 e3
      exact main b off ac L ts (by omega) w hl hcs hO hx hc h0
end LawPaneTurned
end Go.Proofs.Ytkhlpbipkkbghaa
