/- belfrylaw15.SourcePlays: it answers true. -/
import Derived.Test.YtoodcaonlfeleaaDoorLawSourceRises
namespace Go.Proofs.YtoodcaonlfeleaaDoor
open Go Go.Proofs Go.RowKit Go.Shelf
set_option maxRecDepth 100000
attribute [local go_sem] cell_set Oper.semAt_some
/-- what lies behind an act -/
structure PlB (A : Tb) (b m : Nat) (w u : World) : Prop where
  T : TAt u b A
  M : SAt u m (absT A)
  B : Below w.heap.size w u
  ne : b ≠ m
  lb : w.heap.size ≤ b
  lm : w.heap.size ≤ m
section
variable {A : Tb} {b m : Nat} {w u u' : World}
theorem PlB.drew (h : PlB A b m w u) : PlB A b m w u.drew := ⟨VAt.drew h.T, VAt.drew h.M, h.B.drew, h.ne, h.lb, h.lm⟩
theorem PlB.below (h : PlB A b m w u) (hb : Below u.heap.size u u') : PlB A b m w u' := ⟨VAt.below h.T hb, VAt.below h.M hb, h.B.trans (hb.mono h.B.size), h.ne, h.lb, h.lm⟩
end
theorem at_grown {w w' : World} {b : Nat} {l : List Value} {r : Option Nat} (h : At w b l) (g : w.grownBy w' r) (hn : r ≠ some b) : At w' b l := by
  have e := g.block b h.lt (fun e => hn e.symm)
  exact ⟨Nat.lt_of_lt_of_le h.lt g.size, fun j v hv => (World.cell?_of_block (a := ⟨b, j, none⟩) e).trans (h.cell j v hv), fun j v hv => (World.frozen?_of_block (a := ⟨b, j, none⟩) e).trans (h.free j v hv)⟩
/-- what lies while a sample is put -/
structure PtS (A : Tb) (b m xb : Nat) (w : World) (act : List Value) (sl : Value) (ss : List SLab) (u : World) : Prop where
  P : PlB A b m w u
  X : At u xb act
  L : Labs u.heap.size u sl ss
theorem PtS.below {A : Tb} {b m xb : Nat} {w u u' : World} {act : List Value} {sl : Value} {ss : List SLab} (h : PtS A b m xb w act sl ss u) (hb : Below u.heap.size u u') : PtS A b m xb w act sl ss u' := ⟨h.P.below hb, h.X.below hb, labs_on h.L hb⟩
theorem labs_form {n : Nat} {u : World} {v : Value} {ss : List SLab} (h : Labs n u v ss) : ∃ a k c, v = .slice a k c := by
  rcases h with ⟨⟨a, c, rfl⟩, _⟩ | ⟨b, off, cap, rfl, _⟩
  · exact ⟨_, _, _, rfl⟩
  · exact ⟨_, _, _, rfl⟩
/-- two rows of the same numbers -/
structure Two2 (l : List Nat) (a1 : Option Addr) (c1 : Nat) (a2 : Option Addr) (c2 : Nat) (u : World) : Prop where
  x : ∃ B, u.ownsRow B 3 1 (.slice a1 l.length c1) l.length (ivC l)
  y : ∃ B, u.ownsRow B 3 1 (.slice a2 l.length c2) l.length (ivC l)
theorem Two2.drew {l : List Nat} {a1 a2 : Option Addr} {c1 c2 : Nat} {u : World} (h : Two2 l a1 c1 a2 c2 u) : Two2 l a1 c1 a2 c2 u.drew := by
  obtain ⟨⟨B, x⟩, ⟨C, y⟩⟩ := h
  exact ⟨⟨B, x.drew⟩, ⟨C, y.drew⟩⟩
theorem meas15 {n j : Nat} (h : j < n) : n - (intOf (.int .i64 ((j : Int) + 1))).toNat < n - (intOf (.int .i64 (j : Int))).toNat := by simp [intOf]; omega
theorem rowp_at {W : World} {base n : Nat} {e : TypeId} {a : Option Addr} {c : Nat} {xs : List Value} (h : W.ownsRow base e 1 (.slice a n c) n xs) (hn : 0 < n) : ∃ g, a = some ⟨g, 0, none⟩ := by
  obtain ⟨k, rfl⟩ : ∃ k, n = k + 1 := ⟨n - 1, by omega⟩
  exact row1_at h
theorem own_bel {W W' : World} {base n : Nat} {e : TypeId} {v : Value} {xs : List Value} (h : W.ownsRow base e 1 v n xs) (hb : Below W.heap.size W W') : W'.ownsRow base e 1 v n xs :=
  h.kept (row := none) ⟨hb.os, hb.tape, hb.output, hb.size, fun k hk _ => hb.block k hk⟩ (by
    rcases q : v.ownBlock with _ | g
    · exact .inl rfl
    · exact .inr (fun e => by cases e))
set_option maxHeartbeats 40000000 in
theorem plays_any (late idle : Int) (a : Option Addr) (cap : Nat) (L : List Ac) (src seq : Int) (hlate : -9223372036854775808 ≤ late ∧ late ≤ 9223372036854775807) (w : World) (hL : Acs w (.slice a L.length cap) L) (hO : ∀ s ∈ L, AcOK w s) :
    Calls Tryd.prog 3 #[.int .i64 late, .int .i64 idle, .slice a L.length cap, .int .i64 src, .int .i64 seq] w fun e w' => e = .returned (.bool true) ∧ Below w.heap.size w w' := by
  have KN := Lib.hid (known_any w)
  have N0 := Lib.hid (fun W => new_any late idle W)
  have HL := Lib.hid hL
  have HO := Lib.hid hO
  clear hL hO
  by_cases h80 : L.length ≤ 80
  rotate_left
  · have q0 : (80 : Int) < (L.length : Int) := by omega
    go_enter Tryd.func3, Tryd.ntmps3
    go_wp2_with fail
    refine KN.out.mono ?_
    rintro e w0 ⟨rfl, hb0⟩
    have HB0 := Lib.hid hb0
    clear hb0 KN
    go_wp2
    go_ret
    exact ⟨rfl, HB0.out⟩
  have q0 : ¬ (80 : Int) < (L.length : Int) := by omega
  by_cases l1 : 0 ≤ late
  rotate_left
  · as_aux_lemma =>
      have hbad : Hid (¬ NewOk late idle) := fun h => l1 (by have q1 := h.1.1; have q2 := h.1.2; have q3 := h.2.1; have q4 := h.2.2; assumption)
      have d1 : decide (0 ≤ late) = false := by simpa using l1
      clear l1
      go_enter Tryd.func3, Tryd.ntmps3
      go_wp2_with fail
      refine KN.out.mono ?_
      rintro e w0 ⟨rfl, hb0⟩
      have HB0 := Lib.hid hb0
      clear hb0 KN
      go_wp2_with fail
      refine (N0.out _).mono ?_
      rintro e w1 (⟨hn, -⟩ | ⟨-, rfl, rfl⟩)
      · exact absurd hn hbad.out
      go_wp2
      go_ret
      exact ⟨rfl, HB0.out⟩
  by_cases l2 : late ≤ 4398046511104
  rotate_left
  · as_aux_lemma =>
      have hbad : Hid (¬ NewOk late idle) := fun h => l2 (by have q1 := h.1.1; have q2 := h.1.2; have q3 := h.2.1; have q4 := h.2.2; assumption)
      have d1 : decide (0 ≤ late) = true := by simpa using l1
      have d2 : decide (late ≤ 4398046511104) = false := by simpa using l2
      clear l1 l2
      go_enter Tryd.func3, Tryd.ntmps3
      go_wp2_with fail
      refine KN.out.mono ?_
      rintro e w0 ⟨rfl, hb0⟩
      have HB0 := Lib.hid hb0
      clear hb0 KN
      go_wp2_with fail
      refine (N0.out _).mono ?_
      rintro e w1 (⟨hn, -⟩ | ⟨-, rfl, rfl⟩)
      · exact absurd hn hbad.out
      go_wp2
      go_ret
      exact ⟨rfl, HB0.out⟩
  by_cases l3 : 1 ≤ idle
  rotate_left
  · as_aux_lemma =>
      have hbad : Hid (¬ NewOk late idle) := fun h => l3 (by have q1 := h.1.1; have q2 := h.1.2; have q3 := h.2.1; have q4 := h.2.2; assumption)
      have d1 : decide (0 ≤ late) = true := by simpa using l1
      have d2 : decide (late ≤ 4398046511104) = true := by simpa using l2
      have d3 : decide (1 ≤ idle) = false := by simpa using l3
      clear l1 l2 l3
      go_enter Tryd.func3, Tryd.ntmps3
      go_wp2_with fail
      refine KN.out.mono ?_
      rintro e w0 ⟨rfl, hb0⟩
      have HB0 := Lib.hid hb0
      clear hb0 KN
      go_wp2_with fail
      refine (N0.out _).mono ?_
      rintro e w1 (⟨hn, -⟩ | ⟨-, rfl, rfl⟩)
      · exact absurd hn hbad.out
      go_wp2
      go_ret
      exact ⟨rfl, HB0.out⟩
  by_cases l4 : idle ≤ 1000000
  rotate_left
  · as_aux_lemma =>
      have hbad : Hid (¬ NewOk late idle) := fun h => l4 (by have q1 := h.1.1; have q2 := h.1.2; have q3 := h.2.1; have q4 := h.2.2; assumption)
      have d1 : decide (0 ≤ late) = true := by simpa using l1
      have d2 : decide (late ≤ 4398046511104) = true := by simpa using l2
      have d3 : decide (1 ≤ idle) = true := by simpa using l3
      have d4 : decide (idle ≤ 1000000) = false := by simpa using l4
      clear l1 l2 l3 l4
      go_enter Tryd.func3, Tryd.ntmps3
      go_wp2_with fail
      refine KN.out.mono ?_
      rintro e w0 ⟨rfl, hb0⟩
      have HB0 := Lib.hid hb0
      clear hb0 KN
      go_wp2_with fail
      refine (N0.out _).mono ?_
      rintro e w1 (⟨hn, -⟩ | ⟨-, rfl, rfl⟩)
      · exact absurd hn hbad.out
      go_wp2
      go_ret
      exact ⟨rfl, HB0.out⟩
  have hnw : NewOk late idle := ⟨⟨l1, l2⟩, l3, l4⟩
  obtain ⟨⟨l1, l2⟩, l3, l4⟩ := hnw
  have d1 : decide (0 ≤ late) = true := by simpa using l1
  have d2 : decide (late ≤ 4398046511104) = true := by simpa using l2
  have d3 : decide (1 ≤ idle) = true := by simpa using l3
  have d4 : decide (idle ≤ 1000000) = true := by simpa using l4
  have hnw : Hid (NewOk late idle) := ⟨⟨l1, l2⟩, l3, l4⟩
  clear l1 l2 l3 l4
  go_enter Tryd.func3, Tryd.ntmps3
  go_wp2_with fail
  refine KN.out.mono ?_
  rintro e w0 ⟨rfl, hb0⟩
  have HB0 := Lib.hid hb0
  clear hb0 KN
  go_wp2_with fail
  refine (N0.out _).mono ?_
  rintro e w1 (⟨-, rfl, hT, hb⟩ | ⟨hn, -⟩)
  rotate_left
  · exact absurd hnw.out hn
  have HT1 := Lib.hid hT
  have HB1 := Lib.hid (below_then HB0.out hb)
  have hbw : w.heap.size ≤ w0.heap.size := HB0.out.size
  clear hT hb N0 HB0
  have hz := zeroSrc
  have rz := zero_rc
  have hzs : (srC zeroS).toArray.size = 71 := by rw [List.size_toArray, rz.len]
  have hzn : (srC zeroS).toArray ≠ #[] := fun e => by rw [e] at hzs; cases hzs
  have hZ0 := vat_new w1 32 (srC zeroS)
  have rcN : RC 71 (srC (absT (newT late idle))) := sr_rc (abs_len (by simp [newT]))
  go_wp2_with (first | (refine st_v rowSrc rz rcN hZ0 rfl rfl rfl ?hy ?_; (case hy => rfl)) | fail)
  obtain ⟨m, hm⟩ : ∃ m, w1.heap.size = m := ⟨_, rfl⟩
  have hlt1 := VAt.lt HT1.out
  obtain ⟨W1, hW1⟩ : ∃ W1, (w1.alloc (.cells (srC zeroS).toArray 32)).setRow w1.heap.size (srC (absT (newT late idle))).toArray = W1 := ⟨_, rfl⟩
  have HP1 : Hid (PlB (newT late idle) w0.heap.size m w W1) := by
    rw [← hW1, ← hm]
    exact ⟨VAt.farRow (VAt.alloc HT1.out _) (by omega) _, hZ0.row _, below_row (below_new HB1.out _) HB1.out.size _, by omega, hbw, HB1.out.size⟩
  clear hz hzs hzn rz hZ0 rcN
  rw [hm] at hW1
  try rw [hm]
  try rw [hW1]
  clear hW1 hlt1
  go_loopw [11, 15] (fun t i wr => ∃ (k b : Nat) (A : Tb), t = tp b ∧ i = .int .i64 (k : Int) ∧ k ≤ L.length ∧ TbOk ((k : Nat) : Int) A ∧ PlB A b m w wr) (fun _ i _ => L.length - (intOf i).toNat)
  case atStart => exact ⟨0, _, _, rfl, rfl, Nat.zero_le _, new_ok hnw.out, HP1.out⟩
  case round =>
    obtain ⟨k, b, A, rfl, rfl, hk, hA, hP⟩ := hrel
    by_cases hlt : k < L.length
    · obtain ⟨x, hx⟩ : ∃ x, L[k]? = some x := ⟨_, List.getElem?_eq_getElem hlt⟩
      obtain ⟨ab, off, rfl, hb, hcs⟩ := HL.out.cells hx
      obtain ⟨c0, c1, c2, c3, c4, c5, c6⟩ := hcs wr hP.B
      have hk1 := (HO.out x (List.mem_of_getElem? hx)).below hP.B
      have h0k : (0 : Int) ≤ (k : Int) := by omega
      have h1k : (k : Int) < (L.length : Int) := by omega
      have hw1 : wrap64 ((k : Int) + 1) = (k : Int) + 1 := by rw [wr64] <;> omega
      have hxf := hk1.f
      obtain ⟨op, xa, xn, xc, zs, v, t, s, q, f⟩ := x
      dsimp only at *
      obtain ⟨W2, hW2⟩ : ∃ W2, W2 = wr.alloc (.cells #[.int .i64 op, .slice xa xn xc, .int .i64 v, .int .i64 t, .int .i64 s, .int .i64 q, .int .i64 f] 38) := ⟨_, rfl⟩
      have hb2 : Below wr.heap.size wr W2 := by rw [hW2]; exact below_cells _
      have hX : At W2 wr.heap.size [.int .i64 op, .slice xa xn xc, .int .i64 v, .int .i64 t, .int .i64 s, .int .i64 q, .int .i64 f] := by rw [hW2]; exact At.nwb _ _ [_, _, _, _, _, _, _] _ rfl
      have hk2 := hk1.below hb2
      have FW := Lib.hid (few_any xa xn xc zs hk2.n hk2.b _ W2 hk2.g)
      have hP2 := hP.below hb2
      have HP2 := Lib.hid hP2
      have HA := Lib.hid hA
      have HX := Lib.hid hX
      cases hf : fewR zs
      · rw [hf] at FW
        clear hx hk1 hk2 hf hP hA hP2 hX hcs hb2 hb
        go_wp2_with fail
        rw [← hW2]
        refine FW.out.mono ?_
        rintro e w2 ⟨rfl, rfl⟩
        clear hW2
        go_wp2
        go_ret
        exact ⟨rfl, HP2.out.B⟩
      · obtain ⟨ss, hss, hls⟩ := hk2.short hf
        rw [hf] at FW
        have HLS := Lib.hid hls
        have HBX : Hid (b ≠ wr.heap.size ∧ m ≠ wr.heap.size) := by have q1 := VAt.lt hP.T; have q2 := VAt.lt hP.M; show _ ∧ _; omega
        clear hx hk1 hk2 hf hP hA hP2 hcs hb2 hb hls
        go_wp2_with fail
        rw [← hW2]
        refine FW.out.mono ?_
        rintro e w2 ⟨rfl, hw2⟩
        cases hw2
        have e7 := hX.f7
        clear hW2 FW c0 c1 c2 c3 c4 c5 c6
        by_cases o1 : op = 1
        · subst o1
          as_aux_lemma =>
            have OF := Lib.hid (fun u (h : Labs u.heap.size u (.slice xa xn xc) ss) => of6_any xa xn xc ss hss v t s q u h)
            have RP := Lib.hid (fun u a' n' c' (h : Labs u.heap.size u (.slice a' n' c') ss) => rput_any (absT A) (abs_ok HA.out) a' n' c' ss hss v t s q u h)
            unfold PutPostS at RP
            rw [abs_putB HA.out, abs_putN HA.out.len] at RP
            have PT := Lib.hid (fun u (h1 : TAt u b A) (h2 : Labs u.heap.size u (.slice xa xn xc) ss) => put_any b A HA.out (by omega) xa xn xc ss hss v t s q u h1 h2)
            unfold PutPost at PT
            unfold sampV at OF RP PT
            have rcA : RC 71 (srC (absT A)) := sr_rc (abs_len HA.out.len)
            have HA2 : Hid (TbOk (((k + 1 : Nat) : Nat) : Int) (putA A ss t s q)) := (putA_ok HA.out ss t s q).mono (by omega)
            have rcT : RC 71 (srC (absT (putA A ss t s q))) := sr_rc (abs_len HA2.out.len)
            generalize hA2 : putA A ss t s q = A2 at *
            generalize putR A ss t s q = c at *
            clear hA2
            have hz := zeroSrc
            have rz := zero_rc
            have hzs : (srC zeroS).toArray.size = 71 := by rw [List.size_toArray, rz.len]
            have hzn : (srC zeroS).toArray ≠ #[] := fun e => by rw [e] at hzs; cases hzs
            have hS0 : PtS A b m wr.heap.size w [.int .i64 1, .slice xa xn xc, .int .i64 v, .int .i64 t, .int .i64 s, .int .i64 q, .int .i64 f] (.slice xa xn xc) ss W2.drew := ⟨HP2.out.drew, HX.out.drew, labs_on HLS.out (Below.refl _ W2).drew⟩
            clear HX HLS HP2 HA HBX
            go_wp2_with fail
            obtain ⟨wQ, hwQ⟩ : ∃ wQ, W2.drew = wQ := ⟨_, rfl⟩
            refine wp_region_held_drew (S := fun u => Below wQ.heap.size wQ u) (by kernel_rfl) (by rw [hwQ]; exact Below.refl _ _) (fun hS => ?_)
            rw [hwQ] at hS0 hS ⊢
            have HSQ := Lib.hid hS0
            clear e7 hS0 hwQ
            refine tkC 0 (v := .agg (srC (absT A)).toArray) hS (fun u h => HSQ.out.below h) ?_ (hy := ldY_v (fun u h => h.P.M) rowSrc rcA rfl rfl rfl)
            refine tkH 1 hS ?_
            refine tkC 2 (v := .agg #[.slice xa xn xc, .int .i64 v, .int .i64 t, .int .i64 s, .int .i64 q]) hS (fun u h => by have h := (HSQ.out.below h); exact And.intro (h.X.cell 1 _ rfl) (And.intro (h.X.cell 2 _ rfl) (And.intro (h.X.cell 3 _ rfl) (And.intro (h.X.cell 4 _ rfl) (h.X.cell 5 _ rfl))))) ?_
            refine anyH_2 3 8 (fun K hK => ?_) (fun K hK => ?_)
            · go_simp
              go_at_call 10
              refine (OF.out _ (HSQ.out.below hS).L).mono ?_
              rintro e w4 ⟨vl, rfl, hL, hb4⟩
              obtain ⟨a4, n4, c4, rfl⟩ := labs_form hL
              dsimp only
              refine hK.out _ _ (Below.trans hS (hb4.mono hS.size)) (fun hS => ?_)
              clear hK K hb4
              refine anyH_2 4 8 (fun K hK => ?_) (fun K hK => ?_)
              · as_aux_lemma =>
                  go_simp
                  go_at_call 9
                  refine (RP.out _ _ _ _ hL).mono ?_
                  rintro e w5 ⟨rfl, hb5⟩
                  dsimp only
                  refine hK.out _ _ (Below.trans hS (hb5.mono hS.size)) (fun hS => ?_)
                  clear hK K hb5 hL
                  refine tkH 5 hS ?_
                  refine tkH 6 hS ?_
                  refine tkH 7 hS ?_
                  refine anyH_1 8 (fun K hK => ?_)
                  go_simp
                  have hG := vat_new w5 32 (srC zeroS)
                  have hge : Hid (wQ.heap.size ≤ w5.heap.size) := hS.size
                  refine hK.out _ _ (Below.alloc hS hS.size _) (fun hS => ?_)
                  clear hK K
                  refine anyH_1 9 (fun K hK => ?_)
                  refine wp_store_row _ _ _ rfl w5.heap.size (srC (absT A2)).toArray rfl rfl _ (srC zeroS).toArray hG.blk (rowSrc.size rcT) (by rw [List.size_toArray, List.size_toArray, rz.len, rcT.len]) (rc_one rcT) ?_
                  have hG2 := VAt.row hG (srC (absT A2))
                  refine hK.out _ _ (below_row hS hge.out _) (fun hS => ?_)
                  clear hK K hG
                  refine tkH 10 hS ?_
                  refine wpAnyH_done (by kernel_rfl) ?_ _
                  obtain ⟨g, hg⟩ : ∃ g, w5.heap.size = g := ⟨_, rfl⟩
                  rw [hg] at hge hG2 hS ⊢
                  generalize World.setRow _ g (srC (absT A2)).toArray = uF at *
                  have hSF := HSQ.out.below hS
                  have HGF := Lib.hid hG2
                  have hgm : Hid (g ≠ m ∧ g ≠ b) := by
                    have q1 := VAt.lt HSQ.out.P.M
                    have q2 := VAt.lt HSQ.out.P.T
                    have q3 := hge.out
                    show _ ∧ _
                    omega
                  have e7 := hSF.X.f7
                  have PU := Lib.hid (PT.out uF hSF.P.T hSF.L)
                  have HPF := Lib.hid hSF.P
                  clear hSF hG2 hS hge hg HSQ OF RP PT hz rz hzs hzn
                  go_wp2_with fail
                  refine PU.out.mono ?_
                  rintro e w7 ⟨rfl, hT7, hg7⟩
                  have hM7 : SAt w7 m (absT A) := VAt.grown HPF.out.M hg7 (fun e => HPF.out.ne (by injection e))
                  have hG7 := VAt.grown HGF.out hg7 (fun e => hgm.out.2 (by injection e with e; exact e.symm))
                  have hB7 := below_g HPF.out.B hg7 HPF.out.lb (Nat.le_refl _)
                  obtain ⟨W5, hW5⟩ : ∃ W5, W5 = w7.setRow m (srC (absT A2)).toArray := ⟨_, rfl⟩
                  have HP : Hid (PlB A2 b m w W5) := by
                    rw [hW5]
                    exact ⟨VAt.farRow hT7 HPF.out.ne _, VAt.row hM7 _, below_row hB7 HPF.out.lm _, HPF.out.ne, HPF.out.lb, HPF.out.lm⟩
                  clear hT7 hg7 hB7 PU HGF hgm HPF
                  have LI := Lib.hid (fun u (h : TAt u b A2) => Live_any b A2 HA2.out (by omega) u h)
                  have RL := Lib.hid (fun u => rlive_any (absT A2) (abs_ok HA2.out) u)
                  rw [abs_liveS] at RL
                  unfold LivePost at LI RL
                  have rcM : RC 71 (srC (absT A2)) := sr_rc (abs_len HA2.out.len)
                  have h70 := sr_f (abs_len HA2.out.len)
                  change Hid (∀ u, _) at RL
                  have eL : Hid ((liveP A2 16).map (·.1) = liveN A2) := by unfold Hid liveN; rfl
                  rw [eL.out] at RL
                  have hll : (liveN A2).length ≤ 16 := by unfold liveN; rw [List.length_map]; exact liveP_len A2 16
                  generalize liveN A2 = lv at *
                  go_wp2_with (first | (refine ld_v rowSrc rcT hG7 rfl rfl rfl ?_) | (refine st_v rowSrc rcA rcT hM7 rfl rfl rfl rfl ?_; rw [← hW5]; clear hW5 hM7) | fail)
                  refine (LI.out _ HP.out.T).mono ?_
                  rintro e wA ⟨a1, c1, rfl, hr1, hbA⟩
                  have hpA := HP.out.below hbA
                  have hMA := hpA.M
                  have HR1 := Lib.hid hr1
                  have HPA := Lib.hid hpA
                  clear hr1 hbA hpA LI
                  go_wp2_with (first | (refine ld_v rowSrc rcM hMA rfl rfl rfl ?_) | fail)
                  refine (RL.out _).mono ?_
                  rintro e wB ⟨a2, c2, rfl, hr2, hbB⟩
                  have hTw : Two2 lv a1 c1 a2 c2 wB := ⟨⟨_, own_bel HR1.out hbB⟩, ⟨_, hr2⟩⟩
                  have HPB := Lib.hid (HPA.out.below hbB).drew
                  have HTw := Lib.hid hTw.drew
                  clear hr2 hbB hTw hMA RL HR1 HPA
                  have hcF : wB.drew.cell? ⟨m, 70, none⟩ = some (.int .i64 A2.front) := VAt.cell HPB.out.M h70
                  have FR := Lib.hid (frontier_any b A2 wB.drew HPB.out.T)
                  clear h70
                  go_wp2_with fail
                  refine wp_region_held_drew (S := fun u => u.cell? ⟨m, 70, none⟩ = some (.int .i64 A2.front) ∧ u = wB.drew) (by kernel_rfl) ⟨hcF, rfl⟩ (fun hS => ?_)
                  generalize wB.drew = wD at *
                  clear hcF
                  refine tkH 0 hS ?_
                  refine tkH 2 hS ?_
                  refine tkC 3 hS (fun u h => h.1) ?_
                  refine anyH_1 1 (fun K hK => ?_)
                  go_simp
                  go_at_call 18
                  refine FR.out.mono ?_
                  rintro e w9 ⟨rfl, hw9⟩
                  cases hw9
                  dsimp only
                  refine hK.out _ _ hS (fun hS => ?_)
                  clear hK K
                  refine tkH 4 (v := .bool false) hS ?_
                  refine tkH 5 hS ?_
                  refine tkH 6 hS ?_
                  refine tkH 7 hS ?_
                  refine tkH 8 hS ?_
                  refine tkH 9 hS ?_
                  refine tkH 10 (v := .bool false) hS ?_
                  refine tkH 11 hS ?_
                  refine wpAnyH_done (by kernel_rfl) ?_ _
                  clear hS FR
                  go_wp2
                  go_loopw [22] (fun i wr2 => ∃ j : Nat, i = .int .i64 (j : Int) ∧ j ≤ lv.length ∧ PlB A2 b m w wr2 ∧ Two2 lv a1 c1 a2 c2 wr2) (fun i _ => lv.length - (intOf i).toNat)
                  case atStart => exact ⟨0, rfl, Nat.zero_le _, HPB.out, HTw.out⟩
                  case round =>
                    obtain ⟨j, rfl, hj, hP2, hT2⟩ := hrel
                    by_cases hjl : j < lv.length
                    · obtain ⟨y, hy⟩ : ∃ y, lv[j]? = some y := ⟨_, List.getElem?_eq_getElem hjl⟩
                      have hiv : (ivC lv)[j]? = some (.int .i64 ((y : Int) + 1)) := by unfold ivC; rw [List.getElem?_map, hy]; rfl
                      obtain ⟨⟨B1, o1⟩, ⟨B2, o2⟩⟩ := hT2.drew
                      obtain ⟨g1, rfl⟩ := rowp_at o1 (by omega)
                      obtain ⟨g2, rfl⟩ := rowp_at o2 (by omega)
                      have e1 := row1_cell o1 j _ hiv
                      have e2 := row1_cell o2 j _ hiv
                      have j0 : (0 : Int) ≤ (j : Int) := by omega
                      have j1 : (j : Int) < (lv.length : Int) := by omega
                      have jw : wrap64 ((j : Int) + 1) = (j : Int) + 1 := by rw [wr64] <;> omega
                      have HP3 := Lib.hid hP2.drew
                      have HT3 := Lib.hid hT2.drew
                      clear hP2 hT2 o1 o2 hiv hy
                      go_wp2_with fail
                      refine wp_region_held_drew (S := fun u => u.cell? ⟨g1, j, none⟩ = some (.int .i64 ((y : Int) + 1)) ∧ u.cell? ⟨g2, j, none⟩ = some (.int .i64 ((y : Int) + 1)) ∧ PlB A2 b m w u ∧ Two2 lv (some ⟨g1, 0, none⟩) c1 (some ⟨g2, 0, none⟩) c2 u) (by kernel_rfl) ⟨e1, e2, HP3.out, HT3.out⟩ (fun hS => ?_)
                      clear e1 e2 HP3 HT3
                      refine tkH 0 hS ?_
                      refine tkH 1 hS ?_
                      refine tkH 2 (v := .pointer (some ⟨g1, j, none⟩)) hS ?_
                      refine tkC 3 hS (fun u h => h.1) ?_
                      refine tkH 4 hS ?_
                      refine tkH 5 hS ?_
                      refine tkH 6 (v := .pointer (some ⟨g2, j, none⟩)) hS ?_
                      refine tkC 7 hS (fun u h => h.2.1) ?_
                      refine tkH 8 (v := .bool false) hS ?_
                      refine wpAnyH_done (by kernel_rfl) ?_ _
                      have HE := Lib.hid hS
                      clear hS hw1 h0k h1k d1 d2 d3 d4 q0
                      (try clear hxf); (try clear e7); (try clear n1); (try clear n2); (try clear n3); (try clear n4); (try clear hll)
                      go_wp2
                      go_roundw
                      case rel => exact ⟨j + 1, by rw [jw]; rfl, hjl, HE.out.2.2.1, HE.out.2.2.2⟩
                      case measure => rw [jw]; exact meas15 hjl
                    · obtain rfl : j = lv.length := by omega
                      have j1 : ¬ (lv.length : Int) < (lv.length : Int) := by omega
                      have HP3 := Lib.hid hP2
                      clear hP2 hT2
                      go_wp2
                      go_roundw
                      case rel => exact ⟨k + 1, b, A2, rfl, rfl, hlt, HA2.out, HP3.out⟩
                      case measure => exact meas15 hlt
              · as_aux_lemma =>
                  go_simp
                  have hG := vat_new w4 32 (srC zeroS)
                  have hge : Hid (wQ.heap.size ≤ w4.heap.size) := hS.size
                  have hL := labs_on hL (below_cells (w := w4) (.cells (srC zeroS).toArray 32))
                  refine hK.out _ _ (Below.alloc hS hS.size _) (fun hS => ?_)
                  clear hK K
                  refine anyH_1 4 (fun K hK => ?_)
                  go_simp
                  go_at_call 9
                  refine (RP.out _ _ _ _ hL).mono ?_
                  rintro e w5 ⟨rfl, hb5⟩
                  dsimp only
                  have hG := VAt.below hG hb5
                  refine hK.out _ _ (Below.trans hS (hb5.mono hS.size)) (fun hS => ?_)
                  clear hK K hb5 hL
                  refine tkH 5 hS ?_
                  refine tkH 6 hS ?_
                  refine tkH 7 hS ?_
                  refine anyH_1 9 (fun K hK => ?_)
                  refine wp_store_row _ _ _ rfl w4.heap.size (srC (absT A2)).toArray rfl rfl _ (srC zeroS).toArray hG.blk (rowSrc.size rcT) (by rw [List.size_toArray, List.size_toArray, rz.len, rcT.len]) (rc_one rcT) ?_
                  have hG2 := VAt.row hG (srC (absT A2))
                  refine hK.out _ _ (below_row hS hge.out _) (fun hS => ?_)
                  clear hK K hG
                  refine tkH 10 hS ?_
                  refine wpAnyH_done (by kernel_rfl) ?_ _
                  obtain ⟨g, hg⟩ : ∃ g, w4.heap.size = g := ⟨_, rfl⟩
                  rw [hg] at hge hG2 hS ⊢
                  generalize World.setRow _ g (srC (absT A2)).toArray = uF at *
                  have hSF := HSQ.out.below hS
                  have HGF := Lib.hid hG2
                  have hgm : Hid (g ≠ m ∧ g ≠ b) := by
                    have q1 := VAt.lt HSQ.out.P.M
                    have q2 := VAt.lt HSQ.out.P.T
                    have q3 := hge.out
                    show _ ∧ _
                    omega
                  have e7 := hSF.X.f7
                  have PU := Lib.hid (PT.out uF hSF.P.T hSF.L)
                  have HPF := Lib.hid hSF.P
                  clear hSF hG2 hS hge hg HSQ OF RP PT hz rz hzs hzn
                  go_wp2_with fail
                  refine PU.out.mono ?_
                  rintro e w7 ⟨rfl, hT7, hg7⟩
                  have hM7 : SAt w7 m (absT A) := VAt.grown HPF.out.M hg7 (fun e => HPF.out.ne (by injection e))
                  have hG7 := VAt.grown HGF.out hg7 (fun e => hgm.out.2 (by injection e with e; exact e.symm))
                  have hB7 := below_g HPF.out.B hg7 HPF.out.lb (Nat.le_refl _)
                  obtain ⟨W5, hW5⟩ : ∃ W5, W5 = w7.setRow m (srC (absT A2)).toArray := ⟨_, rfl⟩
                  have HP : Hid (PlB A2 b m w W5) := by
                    rw [hW5]
                    exact ⟨VAt.farRow hT7 HPF.out.ne _, VAt.row hM7 _, below_row hB7 HPF.out.lm _, HPF.out.ne, HPF.out.lb, HPF.out.lm⟩
                  clear hT7 hg7 hB7 PU HGF hgm HPF
                  have LI := Lib.hid (fun u (h : TAt u b A2) => Live_any b A2 HA2.out (by omega) u h)
                  have RL := Lib.hid (fun u => rlive_any (absT A2) (abs_ok HA2.out) u)
                  rw [abs_liveS] at RL
                  unfold LivePost at LI RL
                  have rcM : RC 71 (srC (absT A2)) := sr_rc (abs_len HA2.out.len)
                  have h70 := sr_f (abs_len HA2.out.len)
                  change Hid (∀ u, _) at RL
                  have eL : Hid ((liveP A2 16).map (·.1) = liveN A2) := by unfold Hid liveN; rfl
                  rw [eL.out] at RL
                  have hll : (liveN A2).length ≤ 16 := by unfold liveN; rw [List.length_map]; exact liveP_len A2 16
                  generalize liveN A2 = lv at *
                  go_wp2_with (first | (refine ld_v rowSrc rcT hG7 rfl rfl rfl ?_) | (refine st_v rowSrc rcA rcT hM7 rfl rfl rfl rfl ?_; rw [← hW5]; clear hW5 hM7) | fail)
                  refine (LI.out _ HP.out.T).mono ?_
                  rintro e wA ⟨a1, c1, rfl, hr1, hbA⟩
                  have hpA := HP.out.below hbA
                  have hMA := hpA.M
                  have HR1 := Lib.hid hr1
                  have HPA := Lib.hid hpA
                  clear hr1 hbA hpA LI
                  go_wp2_with (first | (refine ld_v rowSrc rcM hMA rfl rfl rfl ?_) | fail)
                  refine (RL.out _).mono ?_
                  rintro e wB ⟨a2, c2, rfl, hr2, hbB⟩
                  have hTw : Two2 lv a1 c1 a2 c2 wB := ⟨⟨_, own_bel HR1.out hbB⟩, ⟨_, hr2⟩⟩
                  have HPB := Lib.hid (HPA.out.below hbB).drew
                  have HTw := Lib.hid hTw.drew
                  clear hr2 hbB hTw hMA RL HR1 HPA
                  have hcF : wB.drew.cell? ⟨m, 70, none⟩ = some (.int .i64 A2.front) := VAt.cell HPB.out.M h70
                  have FR := Lib.hid (frontier_any b A2 wB.drew HPB.out.T)
                  clear h70
                  go_wp2_with fail
                  refine wp_region_held_drew (S := fun u => u.cell? ⟨m, 70, none⟩ = some (.int .i64 A2.front) ∧ u = wB.drew) (by kernel_rfl) ⟨hcF, rfl⟩ (fun hS => ?_)
                  generalize wB.drew = wD at *
                  clear hcF
                  refine tkH 0 hS ?_
                  refine tkH 2 hS ?_
                  refine tkC 3 hS (fun u h => h.1) ?_
                  refine anyH_1 1 (fun K hK => ?_)
                  go_simp
                  go_at_call 18
                  refine FR.out.mono ?_
                  rintro e w9 ⟨rfl, hw9⟩
                  cases hw9
                  dsimp only
                  refine hK.out _ _ hS (fun hS => ?_)
                  clear hK K
                  refine tkH 4 (v := .bool false) hS ?_
                  refine tkH 5 hS ?_
                  refine tkH 6 hS ?_
                  refine tkH 7 hS ?_
                  refine tkH 8 hS ?_
                  refine tkH 9 hS ?_
                  refine tkH 10 (v := .bool false) hS ?_
                  refine tkH 11 hS ?_
                  refine wpAnyH_done (by kernel_rfl) ?_ _
                  clear hS FR
                  go_wp2
                  go_loopw [22] (fun i wr2 => ∃ j : Nat, i = .int .i64 (j : Int) ∧ j ≤ lv.length ∧ PlB A2 b m w wr2 ∧ Two2 lv a1 c1 a2 c2 wr2) (fun i _ => lv.length - (intOf i).toNat)
                  case atStart => exact ⟨0, rfl, Nat.zero_le _, HPB.out, HTw.out⟩
                  case round =>
                    obtain ⟨j, rfl, hj, hP2, hT2⟩ := hrel
                    by_cases hjl : j < lv.length
                    · obtain ⟨y, hy⟩ : ∃ y, lv[j]? = some y := ⟨_, List.getElem?_eq_getElem hjl⟩
                      have hiv : (ivC lv)[j]? = some (.int .i64 ((y : Int) + 1)) := by unfold ivC; rw [List.getElem?_map, hy]; rfl
                      obtain ⟨⟨B1, o1⟩, ⟨B2, o2⟩⟩ := hT2.drew
                      obtain ⟨g1, rfl⟩ := rowp_at o1 (by omega)
                      obtain ⟨g2, rfl⟩ := rowp_at o2 (by omega)
                      have e1 := row1_cell o1 j _ hiv
                      have e2 := row1_cell o2 j _ hiv
                      have j0 : (0 : Int) ≤ (j : Int) := by omega
                      have j1 : (j : Int) < (lv.length : Int) := by omega
                      have jw : wrap64 ((j : Int) + 1) = (j : Int) + 1 := by rw [wr64] <;> omega
                      have HP3 := Lib.hid hP2.drew
                      have HT3 := Lib.hid hT2.drew
                      clear hP2 hT2 o1 o2 hiv hy
                      go_wp2_with fail
                      refine wp_region_held_drew (S := fun u => u.cell? ⟨g1, j, none⟩ = some (.int .i64 ((y : Int) + 1)) ∧ u.cell? ⟨g2, j, none⟩ = some (.int .i64 ((y : Int) + 1)) ∧ PlB A2 b m w u ∧ Two2 lv (some ⟨g1, 0, none⟩) c1 (some ⟨g2, 0, none⟩) c2 u) (by kernel_rfl) ⟨e1, e2, HP3.out, HT3.out⟩ (fun hS => ?_)
                      clear e1 e2 HP3 HT3
                      refine tkH 0 hS ?_
                      refine tkH 1 hS ?_
                      refine tkH 2 (v := .pointer (some ⟨g1, j, none⟩)) hS ?_
                      refine tkC 3 hS (fun u h => h.1) ?_
                      refine tkH 4 hS ?_
                      refine tkH 5 hS ?_
                      refine tkH 6 (v := .pointer (some ⟨g2, j, none⟩)) hS ?_
                      refine tkC 7 hS (fun u h => h.2.1) ?_
                      refine tkH 8 (v := .bool false) hS ?_
                      refine wpAnyH_done (by kernel_rfl) ?_ _
                      have HE := Lib.hid hS
                      clear hS hw1 h0k h1k d1 d2 d3 d4 q0
                      (try clear hxf); (try clear e7); (try clear n1); (try clear n2); (try clear n3); (try clear n4); (try clear hll)
                      go_wp2
                      go_roundw
                      case rel => exact ⟨j + 1, by rw [jw]; rfl, hjl, HE.out.2.2.1, HE.out.2.2.2⟩
                      case measure => rw [jw]; exact meas15 hjl
                    · obtain rfl : j = lv.length := by omega
                      have j1 : ¬ (lv.length : Int) < (lv.length : Int) := by omega
                      have HP3 := Lib.hid hP2
                      clear hP2 hT2
                      go_wp2
                      go_roundw
                      case rel => exact ⟨k + 1, b, A2, rfl, rfl, hlt, HA2.out, HP3.out⟩
                      case measure => exact meas15 hlt
            · as_aux_lemma =>
                go_simp
                have hG := vat_new wQ 32 (srC zeroS)
                have hge : Hid (wQ.heap.size ≤ wQ.heap.size) := hS.size
                refine hK.out _ _ (Below.alloc hS hS.size _) (fun hS => ?_)
                clear hK K
                refine anyH_1 3 (fun K hK => ?_)
                go_simp
                go_at_call 10
                refine (OF.out _ (HSQ.out.below hS).L).mono ?_
                rintro e w4 ⟨vl, rfl, hL, hb4⟩
                obtain ⟨a4, n4, c4, rfl⟩ := labs_form hL
                dsimp only
                have hG := VAt.below hG hb4
                refine hK.out _ _ (Below.trans hS (hb4.mono hS.size)) (fun hS => ?_)
                clear hK K hb4
                refine anyH_1 4 (fun K hK => ?_)
                go_simp
                go_at_call 9
                refine (RP.out _ _ _ _ hL).mono ?_
                rintro e w5 ⟨rfl, hb5⟩
                dsimp only
                have hG := VAt.below hG hb5
                refine hK.out _ _ (Below.trans hS (hb5.mono hS.size)) (fun hS => ?_)
                clear hK K hb5 hL
                refine tkH 5 hS ?_
                refine tkH 6 hS ?_
                refine tkH 7 hS ?_
                refine anyH_1 9 (fun K hK => ?_)
                refine wp_store_row _ _ _ rfl wQ.heap.size (srC (absT A2)).toArray rfl rfl _ (srC zeroS).toArray hG.blk (rowSrc.size rcT) (by rw [List.size_toArray, List.size_toArray, rz.len, rcT.len]) (rc_one rcT) ?_
                have hG2 := VAt.row hG (srC (absT A2))
                refine hK.out _ _ (below_row hS hge.out _) (fun hS => ?_)
                clear hK K hG
                refine tkH 10 hS ?_
                refine wpAnyH_done (by kernel_rfl) ?_ _
                obtain ⟨g, hg⟩ : ∃ g, wQ.heap.size = g := ⟨_, rfl⟩
                have hS' : Below wQ.heap.size wQ (w5.setRow g (srC (absT A2)).toArray) := by rw [← hg]; exact hS
                have hge' : Hid (wQ.heap.size ≤ g) := by rw [← hg]; exact hge.out
                rw [hg] at hG2 ⊢
                clear hS hge
                have hS := hS'
                have hge := hge'
                clear hS' hge'
                generalize World.setRow _ g (srC (absT A2)).toArray = uF at *
                have hSF := HSQ.out.below hS
                have HGF := Lib.hid hG2
                have hgm : Hid (g ≠ m ∧ g ≠ b) := by
                  have q1 := VAt.lt HSQ.out.P.M
                  have q2 := VAt.lt HSQ.out.P.T
                  have q3 := hge.out
                  show _ ∧ _
                  omega
                have e7 := hSF.X.f7
                have PU := Lib.hid (PT.out uF hSF.P.T hSF.L)
                have HPF := Lib.hid hSF.P
                clear hSF hG2 hS hge hg HSQ OF RP PT hz rz hzs hzn
                go_wp2_with fail
                refine PU.out.mono ?_
                rintro e w7 ⟨rfl, hT7, hg7⟩
                have hM7 : SAt w7 m (absT A) := VAt.grown HPF.out.M hg7 (fun e => HPF.out.ne (by injection e))
                have hG7 := VAt.grown HGF.out hg7 (fun e => hgm.out.2 (by injection e with e; exact e.symm))
                have hB7 := below_g HPF.out.B hg7 HPF.out.lb (Nat.le_refl _)
                obtain ⟨W5, hW5⟩ : ∃ W5, W5 = w7.setRow m (srC (absT A2)).toArray := ⟨_, rfl⟩
                have HP : Hid (PlB A2 b m w W5) := by
                  rw [hW5]
                  exact ⟨VAt.farRow hT7 HPF.out.ne _, VAt.row hM7 _, below_row hB7 HPF.out.lm _, HPF.out.ne, HPF.out.lb, HPF.out.lm⟩
                clear hT7 hg7 hB7 PU HGF hgm HPF
                have LI := Lib.hid (fun u (h : TAt u b A2) => Live_any b A2 HA2.out (by omega) u h)
                have RL := Lib.hid (fun u => rlive_any (absT A2) (abs_ok HA2.out) u)
                rw [abs_liveS] at RL
                unfold LivePost at LI RL
                have rcM : RC 71 (srC (absT A2)) := sr_rc (abs_len HA2.out.len)
                have h70 := sr_f (abs_len HA2.out.len)
                change Hid (∀ u, _) at RL
                have eL : Hid ((liveP A2 16).map (·.1) = liveN A2) := by unfold Hid liveN; rfl
                rw [eL.out] at RL
                have hll : (liveN A2).length ≤ 16 := by unfold liveN; rw [List.length_map]; exact liveP_len A2 16
                generalize liveN A2 = lv at *
                go_wp2_with (first | (refine ld_v rowSrc rcT hG7 rfl rfl rfl ?_) | (refine st_v rowSrc rcA rcT hM7 rfl rfl rfl rfl ?_; rw [← hW5]; clear hW5 hM7) | fail)
                refine (LI.out _ HP.out.T).mono ?_
                rintro e wA ⟨a1, c1, rfl, hr1, hbA⟩
                have hpA := HP.out.below hbA
                have hMA := hpA.M
                have HR1 := Lib.hid hr1
                have HPA := Lib.hid hpA
                clear hr1 hbA hpA LI
                go_wp2_with (first | (refine ld_v rowSrc rcM hMA rfl rfl rfl ?_) | fail)
                refine (RL.out _).mono ?_
                rintro e wB ⟨a2, c2, rfl, hr2, hbB⟩
                have hTw : Two2 lv a1 c1 a2 c2 wB := ⟨⟨_, own_bel HR1.out hbB⟩, ⟨_, hr2⟩⟩
                have HPB := Lib.hid (HPA.out.below hbB).drew
                have HTw := Lib.hid hTw.drew
                clear hr2 hbB hTw hMA RL HR1 HPA
                have hcF : wB.drew.cell? ⟨m, 70, none⟩ = some (.int .i64 A2.front) := VAt.cell HPB.out.M h70
                have FR := Lib.hid (frontier_any b A2 wB.drew HPB.out.T)
                clear h70
                go_wp2_with fail
                refine wp_region_held_drew (S := fun u => u.cell? ⟨m, 70, none⟩ = some (.int .i64 A2.front) ∧ u = wB.drew) (by kernel_rfl) ⟨hcF, rfl⟩ (fun hS => ?_)
                generalize wB.drew = wD at *
                clear hcF
                refine tkH 0 hS ?_
                refine tkH 2 hS ?_
                refine tkC 3 hS (fun u h => h.1) ?_
                refine anyH_1 1 (fun K hK => ?_)
                go_simp
                go_at_call 18
                refine FR.out.mono ?_
                rintro e w9 ⟨rfl, hw9⟩
                cases hw9
                dsimp only
                refine hK.out _ _ hS (fun hS => ?_)
                clear hK K
                refine tkH 4 (v := .bool false) hS ?_
                refine tkH 5 hS ?_
                refine tkH 6 hS ?_
                refine tkH 7 hS ?_
                refine tkH 8 hS ?_
                refine tkH 9 hS ?_
                refine tkH 10 (v := .bool false) hS ?_
                refine tkH 11 hS ?_
                refine wpAnyH_done (by kernel_rfl) ?_ _
                clear hS FR
                go_wp2
                go_loopw [22] (fun i wr2 => ∃ j : Nat, i = .int .i64 (j : Int) ∧ j ≤ lv.length ∧ PlB A2 b m w wr2 ∧ Two2 lv a1 c1 a2 c2 wr2) (fun i _ => lv.length - (intOf i).toNat)
                case atStart => exact ⟨0, rfl, Nat.zero_le _, HPB.out, HTw.out⟩
                case round =>
                  obtain ⟨j, rfl, hj, hP2, hT2⟩ := hrel
                  by_cases hjl : j < lv.length
                  · obtain ⟨y, hy⟩ : ∃ y, lv[j]? = some y := ⟨_, List.getElem?_eq_getElem hjl⟩
                    have hiv : (ivC lv)[j]? = some (.int .i64 ((y : Int) + 1)) := by unfold ivC; rw [List.getElem?_map, hy]; rfl
                    obtain ⟨⟨B1, o1⟩, ⟨B2, o2⟩⟩ := hT2.drew
                    obtain ⟨g1, rfl⟩ := rowp_at o1 (by omega)
                    obtain ⟨g2, rfl⟩ := rowp_at o2 (by omega)
                    have e1 := row1_cell o1 j _ hiv
                    have e2 := row1_cell o2 j _ hiv
                    have j0 : (0 : Int) ≤ (j : Int) := by omega
                    have j1 : (j : Int) < (lv.length : Int) := by omega
                    have jw : wrap64 ((j : Int) + 1) = (j : Int) + 1 := by rw [wr64] <;> omega
                    have HP3 := Lib.hid hP2.drew
                    have HT3 := Lib.hid hT2.drew
                    clear hP2 hT2 o1 o2 hiv hy
                    go_wp2_with fail
                    refine wp_region_held_drew (S := fun u => u.cell? ⟨g1, j, none⟩ = some (.int .i64 ((y : Int) + 1)) ∧ u.cell? ⟨g2, j, none⟩ = some (.int .i64 ((y : Int) + 1)) ∧ PlB A2 b m w u ∧ Two2 lv (some ⟨g1, 0, none⟩) c1 (some ⟨g2, 0, none⟩) c2 u) (by kernel_rfl) ⟨e1, e2, HP3.out, HT3.out⟩ (fun hS => ?_)
                    clear e1 e2 HP3 HT3
                    refine tkH 0 hS ?_
                    refine tkH 1 hS ?_
                    refine tkH 2 (v := .pointer (some ⟨g1, j, none⟩)) hS ?_
                    refine tkC 3 hS (fun u h => h.1) ?_
                    refine tkH 4 hS ?_
                    refine tkH 5 hS ?_
                    refine tkH 6 (v := .pointer (some ⟨g2, j, none⟩)) hS ?_
                    refine tkC 7 hS (fun u h => h.2.1) ?_
                    refine tkH 8 (v := .bool false) hS ?_
                    refine wpAnyH_done (by kernel_rfl) ?_ _
                    have HE := Lib.hid hS
                    clear hS hw1 h0k h1k d1 d2 d3 d4 q0
                    (try clear hxf); (try clear e7); (try clear n1); (try clear n2); (try clear n3); (try clear n4); (try clear hll)
                    go_wp2
                    go_roundw
                    case rel => exact ⟨j + 1, by rw [jw]; rfl, hjl, HE.out.2.2.1, HE.out.2.2.2⟩
                    case measure => rw [jw]; exact meas15 hjl
                  · obtain rfl : j = lv.length := by omega
                    have j1 : ¬ (lv.length : Int) < (lv.length : Int) := by omega
                    have HP3 := Lib.hid hP2
                    clear hP2 hT2
                    go_wp2
                    go_roundw
                    case rel => exact ⟨k + 1, b, A2, rfl, rfl, hlt, HA2.out, HP3.out⟩
                    case measure => exact meas15 hlt
        by_cases o2 : op = 2
        · subst o2
          as_aux_lemma =>
            have TK := Lib.hid (tick_any b A HA.out (by omega) _ HP2.out.T)
            have RT := Lib.hid (fun u => rtick_any (absT A) (abs_ok HA.out) u)
            have rcA : RC 71 (srC (absT A)) := sr_rc (abs_len HA.out.len)
            have HA2 : Hid (TbOk (((k + 1 : Nat) : Nat) : Int) (tickT A)) := by have := tick_ok HA.out; exact this.mono (by omega)
            have rcT : RC 71 (srC (absT (tickT A))) := sr_rc (abs_len HA2.out.len)
            rw [← abs_tick] at RT
            generalize hA2 : tickT A = A2 at *
            clear hA2
            go_wp2_with fail
            refine TK.out.mono ?_
            rintro e w3 ⟨⟨v3, rfl⟩, hT3, hg3⟩
            have hM3 : SAt w3 m (absT A) := VAt.grown HP2.out.M hg3 (fun e => HP2.out.ne (by injection e))
            have HB3 := Lib.hid (below_g HP2.out.B hg3 HP2.out.lb (Nat.le_refl _))
            have HT3 := Lib.hid hT3
            clear hT3 hg3 TK
            go_wp2_with (first | (refine ld_v rowSrc rcA hM3 rfl rfl rfl ?_) | fail)
            refine (RT.out _).mono ?_
            rintro e w4 ⟨rfl, hb4⟩
            have hM4 := VAt.below hM3 hb4
            have hT4 := VAt.below HT3.out hb4
            have hB4 : Below w.heap.size w w4 := HB3.out.trans (hb4.mono HB3.out.size)
            obtain ⟨W5, hW5⟩ : ∃ W5, W5 = w4.setRow m (srC (absT A2)).toArray := ⟨_, rfl⟩
            have HP : Hid (PlB A2 b m w W5) := by
              rw [hW5]
              exact ⟨VAt.farRow hT4 HP2.out.ne _, VAt.row hM4 _, below_row hB4 HP2.out.lm _, HP2.out.ne, HP2.out.lb, HP2.out.lm⟩
            clear hb4 hM3 hT4 hB4 RT HA HX HLS HB3 HT3
            have LI := Lib.hid (fun u (h : TAt u b A2) => Live_any b A2 HA2.out (by omega) u h)
            have RL := Lib.hid (fun u => rlive_any (absT A2) (abs_ok HA2.out) u)
            rw [abs_liveS] at RL
            unfold LivePost at LI RL
            have rcM : RC 71 (srC (absT A2)) := sr_rc (abs_len HA2.out.len)
            have h70 := sr_f (abs_len HA2.out.len)
            change Hid (∀ u, _) at RL
            have eL : Hid ((liveP A2 16).map (·.1) = liveN A2) := by unfold Hid liveN; rfl
            rw [eL.out] at RL
            have hll : (liveN A2).length ≤ 16 := by unfold liveN; rw [List.length_map]; exact liveP_len A2 16
            generalize liveN A2 = lv at *
            go_wp2_with (first | (refine st_v rowSrc rcA rcT hM4 rfl rfl rfl rfl ?_; rw [← hW5]; clear hW5 hM4) | fail)
            refine (LI.out _ HP.out.T).mono ?_
            rintro e wA ⟨a1, c1, rfl, hr1, hbA⟩
            have hpA := HP.out.below hbA
            have hMA := hpA.M
            have HR1 := Lib.hid hr1
            have HPA := Lib.hid hpA
            clear hr1 hbA hpA LI
            go_wp2_with (first | (refine ld_v rowSrc rcM hMA rfl rfl rfl ?_) | fail)
            refine (RL.out _).mono ?_
            rintro e wB ⟨a2, c2, rfl, hr2, hbB⟩
            have hTw : Two2 lv a1 c1 a2 c2 wB := ⟨⟨_, own_bel HR1.out hbB⟩, ⟨_, hr2⟩⟩
            have HPB := Lib.hid (HPA.out.below hbB).drew
            have HTw := Lib.hid hTw.drew
            clear hr2 hbB hTw hMA RL HR1 HPA
            have hcF : wB.drew.cell? ⟨m, 70, none⟩ = some (.int .i64 A2.front) := VAt.cell HPB.out.M h70
            have FR := Lib.hid (frontier_any b A2 wB.drew HPB.out.T)
            clear h70
            go_wp2_with fail
            refine wp_region_held_drew (S := fun u => u.cell? ⟨m, 70, none⟩ = some (.int .i64 A2.front) ∧ u = wB.drew) (by kernel_rfl) ⟨hcF, rfl⟩ (fun hS => ?_)
            generalize wB.drew = wD at *
            clear hcF
            refine tkH 0 hS ?_
            refine tkH 2 hS ?_
            refine tkC 3 hS (fun u h => h.1) ?_
            refine anyH_1 1 (fun K hK => ?_)
            go_simp
            go_at_call 18
            refine FR.out.mono ?_
            rintro e w9 ⟨rfl, hw9⟩
            cases hw9
            dsimp only
            refine hK.out _ _ hS (fun hS => ?_)
            clear hK K
            refine tkH 4 (v := .bool false) hS ?_
            refine tkH 5 hS ?_
            refine tkH 6 hS ?_
            refine tkH 7 hS ?_
            refine tkH 8 hS ?_
            refine tkH 9 hS ?_
            refine tkH 10 (v := .bool false) hS ?_
            refine tkH 11 hS ?_
            refine wpAnyH_done (by kernel_rfl) ?_ _
            clear hS FR
            go_wp2
            go_loopw [22] (fun i wr2 => ∃ j : Nat, i = .int .i64 (j : Int) ∧ j ≤ lv.length ∧ PlB A2 b m w wr2 ∧ Two2 lv a1 c1 a2 c2 wr2) (fun i _ => lv.length - (intOf i).toNat)
            case atStart => exact ⟨0, rfl, Nat.zero_le _, HPB.out, HTw.out⟩
            case round =>
              obtain ⟨j, rfl, hj, hP2, hT2⟩ := hrel
              by_cases hjl : j < lv.length
              · obtain ⟨y, hy⟩ : ∃ y, lv[j]? = some y := ⟨_, List.getElem?_eq_getElem hjl⟩
                have hiv : (ivC lv)[j]? = some (.int .i64 ((y : Int) + 1)) := by unfold ivC; rw [List.getElem?_map, hy]; rfl
                obtain ⟨⟨B1, o1⟩, ⟨B2, o2⟩⟩ := hT2.drew
                obtain ⟨g1, rfl⟩ := rowp_at o1 (by omega)
                obtain ⟨g2, rfl⟩ := rowp_at o2 (by omega)
                have e1 := row1_cell o1 j _ hiv
                have e2 := row1_cell o2 j _ hiv
                have j0 : (0 : Int) ≤ (j : Int) := by omega
                have j1 : (j : Int) < (lv.length : Int) := by omega
                have jw : wrap64 ((j : Int) + 1) = (j : Int) + 1 := by rw [wr64] <;> omega
                have HP3 := Lib.hid hP2.drew
                have HT3 := Lib.hid hT2.drew
                clear hP2 hT2 o1 o2 hiv hy
                go_wp2_with fail
                refine wp_region_held_drew (S := fun u => u.cell? ⟨g1, j, none⟩ = some (.int .i64 ((y : Int) + 1)) ∧ u.cell? ⟨g2, j, none⟩ = some (.int .i64 ((y : Int) + 1)) ∧ PlB A2 b m w u ∧ Two2 lv (some ⟨g1, 0, none⟩) c1 (some ⟨g2, 0, none⟩) c2 u) (by kernel_rfl) ⟨e1, e2, HP3.out, HT3.out⟩ (fun hS => ?_)
                clear e1 e2 HP3 HT3
                refine tkH 0 hS ?_
                refine tkH 1 hS ?_
                refine tkH 2 (v := .pointer (some ⟨g1, j, none⟩)) hS ?_
                refine tkC 3 hS (fun u h => h.1) ?_
                refine tkH 4 hS ?_
                refine tkH 5 hS ?_
                refine tkH 6 (v := .pointer (some ⟨g2, j, none⟩)) hS ?_
                refine tkC 7 hS (fun u h => h.2.1) ?_
                refine tkH 8 (v := .bool false) hS ?_
                refine wpAnyH_done (by kernel_rfl) ?_ _
                have HE := Lib.hid hS
                clear hS hw1 h0k h1k d1 d2 d3 d4 q0
                (try clear hxf); (try clear e7); (try clear n1); (try clear n2); (try clear n3); (try clear n4); (try clear hll)
                go_wp2
                go_roundw
                case rel => exact ⟨j + 1, by rw [jw]; rfl, hjl, HE.out.2.2.1, HE.out.2.2.2⟩
                case measure => rw [jw]; exact meas15 hjl
              · obtain rfl : j = lv.length := by omega
                have j1 : ¬ (lv.length : Int) < (lv.length : Int) := by omega
                have HP3 := Lib.hid hP2
                clear hP2 hT2
                go_wp2
                go_roundw
                case rel => exact ⟨k + 1, b, A2, rfl, rfl, hlt, HA2.out, HP3.out⟩
                case measure => exact meas15 hlt
        by_cases o3 : op = 3
        · subst o3
          as_aux_lemma =>
            have RS := Lib.hid (raise_any b A f _ HP2.out.T)
            have HA2 : Hid (TbOk (((k + 1 : Nat) : Nat) : Int) (raiseT A f)) := (raise_ok HA.out hxf).mono (by omega)
            have eA : Hid (absT (raiseT A f) = { absT A with f := max A.front f }) := abs_raise A f
            generalize hA2 : raiseT A f = A2 at *
            clear hA2 HLS
            go_wp2_with fail
            refine RS.out.mono ?_
            rintro e w3 ⟨⟨v3, rfl⟩, hT3, hg3⟩
            have hM3 : SAt w3 m (absT A) := VAt.grown HP2.out.M hg3 (fun e => HP2.out.ne (by injection e))
            have hX3 := (at_grown HX.out hg3 (fun e => HBX.out.1 (by injection e))).f7
            have hB3 := below_g HP2.out.B hg3 HP2.out.lb (Nat.le_refl _)
            have c70 : w3.cell? ⟨m, 70, none⟩ = some (.int .i64 A.front) := VAt.cell hM3 (sr_f (abs_len HA.out.len))
            have f70 := VAt.free hM3 70
            clear e7 HX HBX
            by_cases hf : A.front < f
            · have hM5 := VAt.set hM3 70 (.int .i64 f)
              rw [sr_setf (abs_len HA.out.len)] at hM5
              obtain ⟨W5, hW5⟩ : ∃ W5, W5 = w3.setCell ⟨m, 70, none⟩ (.int .i64 f) := ⟨_, rfl⟩
              have HP : Hid (PlB A2 b m w W5) := by
                rw [hW5]
                exact ⟨VAt.far hT3 HP2.out.ne _, by rw [eA.out, show max A.front f = f by omega]; exact hM5, hB3.setCell HP2.out.lm _, HP2.out.ne, HP2.out.lb, HP2.out.lm⟩
              clear hM3 hM5 hT3 hg3 hB3 eA RS HA
              have LI := Lib.hid (fun u (h : TAt u b A2) => Live_any b A2 HA2.out (by omega) u h)
              have RL := Lib.hid (fun u => rlive_any (absT A2) (abs_ok HA2.out) u)
              rw [abs_liveS] at RL
              unfold LivePost at LI RL
              have rcM : RC 71 (srC (absT A2)) := sr_rc (abs_len HA2.out.len)
              have h70 := sr_f (abs_len HA2.out.len)
              change Hid (∀ u, _) at RL
              have eL : Hid ((liveP A2 16).map (·.1) = liveN A2) := by unfold Hid liveN; rfl
              rw [eL.out] at RL
              have hll : (liveN A2).length ≤ 16 := by unfold liveN; rw [List.length_map]; exact liveP_len A2 16
              generalize liveN A2 = lv at *
              go_wp2_with fail
              rw [← hW5]
              clear hW5
              refine (LI.out _ HP.out.T).mono ?_
              rintro e wA ⟨a1, c1, rfl, hr1, hbA⟩
              have hpA := HP.out.below hbA
              have hMA := hpA.M
              have HR1 := Lib.hid hr1
              have HPA := Lib.hid hpA
              clear hr1 hbA hpA LI
              go_wp2_with (first | (refine ld_v rowSrc rcM hMA rfl rfl rfl ?_) | fail)
              refine (RL.out _).mono ?_
              rintro e wB ⟨a2, c2, rfl, hr2, hbB⟩
              have hTw : Two2 lv a1 c1 a2 c2 wB := ⟨⟨_, own_bel HR1.out hbB⟩, ⟨_, hr2⟩⟩
              have HPB := Lib.hid (HPA.out.below hbB).drew
              have HTw := Lib.hid hTw.drew
              clear hr2 hbB hTw hMA RL HR1 HPA
              have hcF : wB.drew.cell? ⟨m, 70, none⟩ = some (.int .i64 A2.front) := VAt.cell HPB.out.M h70
              have FR := Lib.hid (frontier_any b A2 wB.drew HPB.out.T)
              clear h70
              go_wp2_with fail
              refine wp_region_held_drew (S := fun u => u.cell? ⟨m, 70, none⟩ = some (.int .i64 A2.front) ∧ u = wB.drew) (by kernel_rfl) ⟨hcF, rfl⟩ (fun hS => ?_)
              generalize wB.drew = wD at *
              clear hcF
              refine tkH 0 hS ?_
              refine tkH 2 hS ?_
              refine tkC 3 hS (fun u h => h.1) ?_
              refine anyH_1 1 (fun K hK => ?_)
              go_simp
              go_at_call 18
              refine FR.out.mono ?_
              rintro e w9 ⟨rfl, hw9⟩
              cases hw9
              dsimp only
              refine hK.out _ _ hS (fun hS => ?_)
              clear hK K
              refine tkH 4 (v := .bool false) hS ?_
              refine tkH 5 hS ?_
              refine tkH 6 hS ?_
              refine tkH 7 hS ?_
              refine tkH 8 hS ?_
              refine tkH 9 hS ?_
              refine tkH 10 (v := .bool false) hS ?_
              refine tkH 11 hS ?_
              refine wpAnyH_done (by kernel_rfl) ?_ _
              clear hS FR
              go_wp2
              go_loopw [22] (fun i wr2 => ∃ j : Nat, i = .int .i64 (j : Int) ∧ j ≤ lv.length ∧ PlB A2 b m w wr2 ∧ Two2 lv a1 c1 a2 c2 wr2) (fun i _ => lv.length - (intOf i).toNat)
              case atStart => exact ⟨0, rfl, Nat.zero_le _, HPB.out, HTw.out⟩
              case round =>
                obtain ⟨j, rfl, hj, hP2, hT2⟩ := hrel
                by_cases hjl : j < lv.length
                · obtain ⟨y, hy⟩ : ∃ y, lv[j]? = some y := ⟨_, List.getElem?_eq_getElem hjl⟩
                  have hiv : (ivC lv)[j]? = some (.int .i64 ((y : Int) + 1)) := by unfold ivC; rw [List.getElem?_map, hy]; rfl
                  obtain ⟨⟨B1, o1⟩, ⟨B2, o2⟩⟩ := hT2.drew
                  obtain ⟨g1, rfl⟩ := rowp_at o1 (by omega)
                  obtain ⟨g2, rfl⟩ := rowp_at o2 (by omega)
                  have e1 := row1_cell o1 j _ hiv
                  have e2 := row1_cell o2 j _ hiv
                  have j0 : (0 : Int) ≤ (j : Int) := by omega
                  have j1 : (j : Int) < (lv.length : Int) := by omega
                  have jw : wrap64 ((j : Int) + 1) = (j : Int) + 1 := by rw [wr64] <;> omega
                  have HP3 := Lib.hid hP2.drew
                  have HT3 := Lib.hid hT2.drew
                  clear hP2 hT2 o1 o2 hiv hy
                  go_wp2_with fail
                  refine wp_region_held_drew (S := fun u => u.cell? ⟨g1, j, none⟩ = some (.int .i64 ((y : Int) + 1)) ∧ u.cell? ⟨g2, j, none⟩ = some (.int .i64 ((y : Int) + 1)) ∧ PlB A2 b m w u ∧ Two2 lv (some ⟨g1, 0, none⟩) c1 (some ⟨g2, 0, none⟩) c2 u) (by kernel_rfl) ⟨e1, e2, HP3.out, HT3.out⟩ (fun hS => ?_)
                  clear e1 e2 HP3 HT3
                  refine tkH 0 hS ?_
                  refine tkH 1 hS ?_
                  refine tkH 2 (v := .pointer (some ⟨g1, j, none⟩)) hS ?_
                  refine tkC 3 hS (fun u h => h.1) ?_
                  refine tkH 4 hS ?_
                  refine tkH 5 hS ?_
                  refine tkH 6 (v := .pointer (some ⟨g2, j, none⟩)) hS ?_
                  refine tkC 7 hS (fun u h => h.2.1) ?_
                  refine tkH 8 (v := .bool false) hS ?_
                  refine wpAnyH_done (by kernel_rfl) ?_ _
                  have HE := Lib.hid hS
                  clear hS hw1 h0k h1k d1 d2 d3 d4 q0
                  (try clear hxf); (try clear e7); (try clear n1); (try clear n2); (try clear n3); (try clear n4); (try clear hll)
                  go_wp2
                  go_roundw
                  case rel => exact ⟨j + 1, by rw [jw]; rfl, hjl, HE.out.2.2.1, HE.out.2.2.2⟩
                  case measure => rw [jw]; exact meas15 hjl
                · obtain rfl : j = lv.length := by omega
                  have j1 : ¬ (lv.length : Int) < (lv.length : Int) := by omega
                  have HP3 := Lib.hid hP2
                  clear hP2 hT2
                  go_wp2
                  go_roundw
                  case rel => exact ⟨k + 1, b, A2, rfl, rfl, hlt, HA2.out, HP3.out⟩
                  case measure => exact meas15 hlt
            · have HP : Hid (PlB A2 b m w w3) := ⟨hT3, by rw [eA.out, show max A.front f = A.front by omega]; exact hM3, hB3, HP2.out.ne, HP2.out.lb, HP2.out.lm⟩
              have hf2 : f ≤ A.front := by omega
              clear hM3 hT3 hg3 hB3 eA RS HA hf
              have LI := Lib.hid (fun u (h : TAt u b A2) => Live_any b A2 HA2.out (by omega) u h)
              have RL := Lib.hid (fun u => rlive_any (absT A2) (abs_ok HA2.out) u)
              rw [abs_liveS] at RL
              unfold LivePost at LI RL
              have rcM : RC 71 (srC (absT A2)) := sr_rc (abs_len HA2.out.len)
              have h70 := sr_f (abs_len HA2.out.len)
              change Hid (∀ u, _) at RL
              have eL : Hid ((liveP A2 16).map (·.1) = liveN A2) := by unfold Hid liveN; rfl
              rw [eL.out] at RL
              have hll : (liveN A2).length ≤ 16 := by unfold liveN; rw [List.length_map]; exact liveP_len A2 16
              generalize liveN A2 = lv at *
              go_wp2_with fail
              refine (LI.out _ HP.out.T).mono ?_
              rintro e wA ⟨a1, c1, rfl, hr1, hbA⟩
              have hpA := HP.out.below hbA
              have hMA := hpA.M
              have HR1 := Lib.hid hr1
              have HPA := Lib.hid hpA
              clear hr1 hbA hpA LI
              go_wp2_with (first | (refine ld_v rowSrc rcM hMA rfl rfl rfl ?_) | fail)
              refine (RL.out _).mono ?_
              rintro e wB ⟨a2, c2, rfl, hr2, hbB⟩
              have hTw : Two2 lv a1 c1 a2 c2 wB := ⟨⟨_, own_bel HR1.out hbB⟩, ⟨_, hr2⟩⟩
              have HPB := Lib.hid (HPA.out.below hbB).drew
              have HTw := Lib.hid hTw.drew
              clear hr2 hbB hTw hMA RL HR1 HPA
              have hcF : wB.drew.cell? ⟨m, 70, none⟩ = some (.int .i64 A2.front) := VAt.cell HPB.out.M h70
              have FR := Lib.hid (frontier_any b A2 wB.drew HPB.out.T)
              clear h70
              go_wp2_with fail
              refine wp_region_held_drew (S := fun u => u.cell? ⟨m, 70, none⟩ = some (.int .i64 A2.front) ∧ u = wB.drew) (by kernel_rfl) ⟨hcF, rfl⟩ (fun hS => ?_)
              generalize wB.drew = wD at *
              clear hcF
              refine tkH 0 hS ?_
              refine tkH 2 hS ?_
              refine tkC 3 hS (fun u h => h.1) ?_
              refine anyH_1 1 (fun K hK => ?_)
              go_simp
              go_at_call 18
              refine FR.out.mono ?_
              rintro e w9 ⟨rfl, hw9⟩
              cases hw9
              dsimp only
              refine hK.out _ _ hS (fun hS => ?_)
              clear hK K
              refine tkH 4 (v := .bool false) hS ?_
              refine tkH 5 hS ?_
              refine tkH 6 hS ?_
              refine tkH 7 hS ?_
              refine tkH 8 hS ?_
              refine tkH 9 hS ?_
              refine tkH 10 (v := .bool false) hS ?_
              refine tkH 11 hS ?_
              refine wpAnyH_done (by kernel_rfl) ?_ _
              clear hS FR
              go_wp2
              go_loopw [22] (fun i wr2 => ∃ j : Nat, i = .int .i64 (j : Int) ∧ j ≤ lv.length ∧ PlB A2 b m w wr2 ∧ Two2 lv a1 c1 a2 c2 wr2) (fun i _ => lv.length - (intOf i).toNat)
              case atStart => exact ⟨0, rfl, Nat.zero_le _, HPB.out, HTw.out⟩
              case round =>
                obtain ⟨j, rfl, hj, hP2, hT2⟩ := hrel
                by_cases hjl : j < lv.length
                · obtain ⟨y, hy⟩ : ∃ y, lv[j]? = some y := ⟨_, List.getElem?_eq_getElem hjl⟩
                  have hiv : (ivC lv)[j]? = some (.int .i64 ((y : Int) + 1)) := by unfold ivC; rw [List.getElem?_map, hy]; rfl
                  obtain ⟨⟨B1, o1⟩, ⟨B2, o2⟩⟩ := hT2.drew
                  obtain ⟨g1, rfl⟩ := rowp_at o1 (by omega)
                  obtain ⟨g2, rfl⟩ := rowp_at o2 (by omega)
                  have e1 := row1_cell o1 j _ hiv
                  have e2 := row1_cell o2 j _ hiv
                  have j0 : (0 : Int) ≤ (j : Int) := by omega
                  have j1 : (j : Int) < (lv.length : Int) := by omega
                  have jw : wrap64 ((j : Int) + 1) = (j : Int) + 1 := by rw [wr64] <;> omega
                  have HP3 := Lib.hid hP2.drew
                  have HT3 := Lib.hid hT2.drew
                  clear hP2 hT2 o1 o2 hiv hy
                  go_wp2_with fail
                  refine wp_region_held_drew (S := fun u => u.cell? ⟨g1, j, none⟩ = some (.int .i64 ((y : Int) + 1)) ∧ u.cell? ⟨g2, j, none⟩ = some (.int .i64 ((y : Int) + 1)) ∧ PlB A2 b m w u ∧ Two2 lv (some ⟨g1, 0, none⟩) c1 (some ⟨g2, 0, none⟩) c2 u) (by kernel_rfl) ⟨e1, e2, HP3.out, HT3.out⟩ (fun hS => ?_)
                  clear e1 e2 HP3 HT3
                  refine tkH 0 hS ?_
                  refine tkH 1 hS ?_
                  refine tkH 2 (v := .pointer (some ⟨g1, j, none⟩)) hS ?_
                  refine tkC 3 hS (fun u h => h.1) ?_
                  refine tkH 4 hS ?_
                  refine tkH 5 hS ?_
                  refine tkH 6 (v := .pointer (some ⟨g2, j, none⟩)) hS ?_
                  refine tkC 7 hS (fun u h => h.2.1) ?_
                  refine tkH 8 (v := .bool false) hS ?_
                  refine wpAnyH_done (by kernel_rfl) ?_ _
                  have HE := Lib.hid hS
                  clear hS hw1 h0k h1k d1 d2 d3 d4 q0
                  (try clear hxf); (try clear e7); (try clear n1); (try clear n2); (try clear n3); (try clear n4); (try clear hll)
                  go_wp2
                  go_roundw
                  case rel => exact ⟨j + 1, by rw [jw]; rfl, hjl, HE.out.2.2.1, HE.out.2.2.2⟩
                  case measure => rw [jw]; exact meas15 hjl
                · obtain rfl : j = lv.length := by omega
                  have j1 : ¬ (lv.length : Int) < (lv.length : Int) := by omega
                  have HP3 := Lib.hid hP2
                  clear hP2 hT2
                  go_wp2
                  go_roundw
                  case rel => exact ⟨k + 1, b, A2, rfl, rfl, hlt, HA2.out, HP3.out⟩
                  case measure => exact meas15 hlt
        by_cases o4 : op = 4
        · subst o4
          as_aux_lemma =>
            have TW := Lib.hid (twin_any b A HA.out.len _ HP2.out.T)
            have hbW : b < W2.heap.size := VAt.lt HP2.out.T
            have HA3 : Hid (TbOk (k : Int) (raiseT A 1152921504606846976)) := raise_ok HA.out (by unfold I64; omega)
            have HA2 : Hid (TbOk (((k + 1 : Nat) : Nat) : Int) A) := HA.out.mono (by omega)
            clear HX HLS HBX HA
            go_wp2_with fail
            refine TW.out.mono ?_
            rintro e w3 ⟨rfl, hT3, hb3⟩
            have RS := Lib.hid (raise_any b A 1152921504606846976 w3 (VAt.below HP2.out.T hb3))
            have HM3 := Lib.hid (VAt.below HP2.out.M hb3)
            have HB3 := Lib.hid (HP2.out.B.trans (hb3.mono HP2.out.B.size))
            have HT3 := Lib.hid hT3
            have hmW : m < W2.heap.size := VAt.lt HP2.out.M
            obtain ⟨b2, hb2⟩ : ∃ b2, W2.heap.size = b2 := ⟨_, rfl⟩
            rw [hb2] at HT3 hbW hmW ⊢
            have hlb2 : Hid (w.heap.size ≤ b2) := by have := HP2.out.B.size; show _ ≤ _; omega
            have hne2 : Hid (b2 ≠ m ∧ b2 ≠ b) := by show _ ∧ _; omega
            clear hb3 hT3 TW hb2 hbW hmW e7
            go_wp2_with fail
            refine RS.out.mono ?_
            rintro e w4 ⟨⟨v4, rfl⟩, hT4, hg4⟩
            have TK := Lib.hid (tick_any b _ HA3.out (by omega) w4 hT4)
            have HM4 := Lib.hid (VAt.grown HM3.out hg4 (fun e => HP2.out.ne (by injection e)))
            have HT4 := Lib.hid (VAt.grown HT3.out hg4 (fun e => hne2.out.2 (by injection e with e; exact e.symm)))
            have HB4 := Lib.hid (below_g HB3.out hg4 HP2.out.lb (Nat.le_refl _))
            clear hT4 hg4 RS HM3 HT3 HB3
            go_wp2_with fail
            refine TK.out.mono ?_
            rintro e w5 ⟨⟨v5, rfl⟩, hT5, hg5⟩
            have HP : Hid (PlB A b2 m w w5) := ⟨VAt.grown HT4.out hg5 (fun e => hne2.out.2 (by injection e with e; exact e.symm)), VAt.grown HM4.out hg5 (fun e => HP2.out.ne (by injection e)), below_g HB4.out hg5 HP2.out.lb (Nat.le_refl _), hne2.out.1, hlb2.out, HP2.out.lm⟩
            clear hT5 hg5 TK HM4 HT4 HB4 HA3 HP2
            have LI := Lib.hid (fun u (h : TAt u b2 A) => Live_any b2 A HA2.out (by omega) u h)
            have RL := Lib.hid (fun u => rlive_any (absT A) (abs_ok HA2.out) u)
            rw [abs_liveS] at RL
            unfold LivePost at LI RL
            have rcM : RC 71 (srC (absT A)) := sr_rc (abs_len HA2.out.len)
            have h70 := sr_f (abs_len HA2.out.len)
            change Hid (∀ u, _) at RL
            have eL : Hid ((liveP A 16).map (·.1) = liveN A) := by unfold Hid liveN; rfl
            rw [eL.out] at RL
            have hll : (liveN A).length ≤ 16 := by unfold liveN; rw [List.length_map]; exact liveP_len A 16
            generalize liveN A = lv at *
            go_wp2_with fail
            refine (LI.out _ HP.out.T).mono ?_
            rintro e wA ⟨a1, c1, rfl, hr1, hbA⟩
            have hpA := HP.out.below hbA
            have hMA := hpA.M
            have HR1 := Lib.hid hr1
            have HPA := Lib.hid hpA
            clear hr1 hbA hpA LI
            go_wp2_with (first | (refine ld_v rowSrc rcM hMA rfl rfl rfl ?_) | fail)
            refine (RL.out _).mono ?_
            rintro e wB ⟨a2, c2, rfl, hr2, hbB⟩
            have hTw : Two2 lv a1 c1 a2 c2 wB := ⟨⟨_, own_bel HR1.out hbB⟩, ⟨_, hr2⟩⟩
            have HPB := Lib.hid (HPA.out.below hbB).drew
            have HTw := Lib.hid hTw.drew
            clear hr2 hbB hTw hMA RL HR1 HPA
            have hcF : wB.drew.cell? ⟨m, 70, none⟩ = some (.int .i64 A.front) := VAt.cell HPB.out.M h70
            have FR := Lib.hid (frontier_any b2 A wB.drew HPB.out.T)
            clear h70
            go_wp2_with fail
            refine wp_region_held_drew (S := fun u => u.cell? ⟨m, 70, none⟩ = some (.int .i64 A.front) ∧ u = wB.drew) (by kernel_rfl) ⟨hcF, rfl⟩ (fun hS => ?_)
            generalize wB.drew = wD at *
            clear hcF
            refine tkH 0 hS ?_
            refine tkH 2 hS ?_
            refine tkC 3 hS (fun u h => h.1) ?_
            refine anyH_1 1 (fun K hK => ?_)
            go_simp
            go_at_call 18
            refine FR.out.mono ?_
            rintro e w9 ⟨rfl, hw9⟩
            cases hw9
            dsimp only
            refine hK.out _ _ hS (fun hS => ?_)
            clear hK K
            refine tkH 4 (v := .bool false) hS ?_
            refine tkH 5 hS ?_
            refine tkH 6 hS ?_
            refine tkH 7 hS ?_
            refine tkH 8 hS ?_
            refine tkH 9 hS ?_
            refine tkH 10 (v := .bool false) hS ?_
            refine tkH 11 hS ?_
            refine wpAnyH_done (by kernel_rfl) ?_ _
            clear hS FR
            go_wp2
            go_loopw [22] (fun i wr2 => ∃ j : Nat, i = .int .i64 (j : Int) ∧ j ≤ lv.length ∧ PlB A b2 m w wr2 ∧ Two2 lv a1 c1 a2 c2 wr2) (fun i _ => lv.length - (intOf i).toNat)
            case atStart => exact ⟨0, rfl, Nat.zero_le _, HPB.out, HTw.out⟩
            case round =>
              obtain ⟨j, rfl, hj, hP2, hT2⟩ := hrel
              by_cases hjl : j < lv.length
              · obtain ⟨y, hy⟩ : ∃ y, lv[j]? = some y := ⟨_, List.getElem?_eq_getElem hjl⟩
                have hiv : (ivC lv)[j]? = some (.int .i64 ((y : Int) + 1)) := by unfold ivC; rw [List.getElem?_map, hy]; rfl
                obtain ⟨⟨B1, o1⟩, ⟨B2, o2⟩⟩ := hT2.drew
                obtain ⟨g1, rfl⟩ := rowp_at o1 (by omega)
                obtain ⟨g2, rfl⟩ := rowp_at o2 (by omega)
                have e1 := row1_cell o1 j _ hiv
                have e2 := row1_cell o2 j _ hiv
                have j0 : (0 : Int) ≤ (j : Int) := by omega
                have j1 : (j : Int) < (lv.length : Int) := by omega
                have jw : wrap64 ((j : Int) + 1) = (j : Int) + 1 := by rw [wr64] <;> omega
                have HP3 := Lib.hid hP2.drew
                have HT3 := Lib.hid hT2.drew
                clear hP2 hT2 o1 o2 hiv hy
                go_wp2_with fail
                refine wp_region_held_drew (S := fun u => u.cell? ⟨g1, j, none⟩ = some (.int .i64 ((y : Int) + 1)) ∧ u.cell? ⟨g2, j, none⟩ = some (.int .i64 ((y : Int) + 1)) ∧ PlB A b2 m w u ∧ Two2 lv (some ⟨g1, 0, none⟩) c1 (some ⟨g2, 0, none⟩) c2 u) (by kernel_rfl) ⟨e1, e2, HP3.out, HT3.out⟩ (fun hS => ?_)
                clear e1 e2 HP3 HT3
                refine tkH 0 hS ?_
                refine tkH 1 hS ?_
                refine tkH 2 (v := .pointer (some ⟨g1, j, none⟩)) hS ?_
                refine tkC 3 hS (fun u h => h.1) ?_
                refine tkH 4 hS ?_
                refine tkH 5 hS ?_
                refine tkH 6 (v := .pointer (some ⟨g2, j, none⟩)) hS ?_
                refine tkC 7 hS (fun u h => h.2.1) ?_
                refine tkH 8 (v := .bool false) hS ?_
                refine wpAnyH_done (by kernel_rfl) ?_ _
                have HE := Lib.hid hS
                clear hS hw1 h0k h1k d1 d2 d3 d4 q0
                (try clear hxf); (try clear e7); (try clear n1); (try clear n2); (try clear n3); (try clear n4); (try clear hll)
                go_wp2
                go_roundw
                case rel => exact ⟨j + 1, by rw [jw]; rfl, hjl, HE.out.2.2.1, HE.out.2.2.2⟩
                case measure => rw [jw]; exact meas15 hjl
              · obtain rfl : j = lv.length := by omega
                have j1 : ¬ (lv.length : Int) < (lv.length : Int) := by omega
                have HP3 := Lib.hid hP2
                clear hP2 hT2
                go_wp2
                go_roundw
                case rel => exact ⟨k + 1, b2, A, rfl, rfl, hlt, HA2.out, HP3.out⟩
                case measure => exact meas15 hlt
        as_aux_lemma =>
          have n1 : (op == 1) = false := by rw [beq_eq_false_iff_ne]; exact o1
          have n2 : (op == 2) = false := by rw [beq_eq_false_iff_ne]; exact o2
          have n3 : (op == 3) = false := by rw [beq_eq_false_iff_ne]; exact o3
          have n4 : (op == 4) = false := by rw [beq_eq_false_iff_ne]; exact o4
          have HP := HP2
          have HA2 : Hid (TbOk (((k + 1 : Nat) : Nat) : Int) A) := HA.out.mono (by omega)
          clear HA HP2 HX HLS
          obtain ⟨A2, hA2⟩ : ∃ A2, A = A2 := ⟨_, rfl⟩
          subst hA2
          have LI := Lib.hid (fun u (h : TAt u b A) => Live_any b A HA2.out (by omega) u h)
          have RL := Lib.hid (fun u => rlive_any (absT A) (abs_ok HA2.out) u)
          rw [abs_liveS] at RL
          unfold LivePost at LI RL
          have rcM : RC 71 (srC (absT A)) := sr_rc (abs_len HA2.out.len)
          have h70 := sr_f (abs_len HA2.out.len)
          change Hid (∀ u, _) at RL
          have eL : Hid ((liveP A 16).map (·.1) = liveN A) := by unfold Hid liveN; rfl
          rw [eL.out] at RL
          have hll : (liveN A).length ≤ 16 := by unfold liveN; rw [List.length_map]; exact liveP_len A 16
          generalize liveN A = lv at *
          go_wp2_with fail
          refine (LI.out _ HP.out.T).mono ?_
          rintro e wA ⟨a1, c1, rfl, hr1, hbA⟩
          have hpA := HP.out.below hbA
          have hMA := hpA.M
          have HR1 := Lib.hid hr1
          have HPA := Lib.hid hpA
          clear hr1 hbA hpA LI
          go_wp2_with (first | (refine ld_v rowSrc rcM hMA rfl rfl rfl ?_) | fail)
          refine (RL.out _).mono ?_
          rintro e wB ⟨a2, c2, rfl, hr2, hbB⟩
          have hTw : Two2 lv a1 c1 a2 c2 wB := ⟨⟨_, own_bel HR1.out hbB⟩, ⟨_, hr2⟩⟩
          have HPB := Lib.hid (HPA.out.below hbB).drew
          have HTw := Lib.hid hTw.drew
          clear hr2 hbB hTw hMA RL HR1 HPA
          have hcF : wB.drew.cell? ⟨m, 70, none⟩ = some (.int .i64 A.front) := VAt.cell HPB.out.M h70
          have FR := Lib.hid (frontier_any b A wB.drew HPB.out.T)
          clear h70
          go_wp2_with fail
          refine wp_region_held_drew (S := fun u => u.cell? ⟨m, 70, none⟩ = some (.int .i64 A.front) ∧ u = wB.drew) (by kernel_rfl) ⟨hcF, rfl⟩ (fun hS => ?_)
          generalize wB.drew = wD at *
          clear hcF
          refine tkH 0 hS ?_
          refine tkH 2 hS ?_
          refine tkC 3 hS (fun u h => h.1) ?_
          refine anyH_1 1 (fun K hK => ?_)
          go_simp
          go_at_call 18
          refine FR.out.mono ?_
          rintro e w9 ⟨rfl, hw9⟩
          cases hw9
          dsimp only
          refine hK.out _ _ hS (fun hS => ?_)
          clear hK K
          refine tkH 4 (v := .bool false) hS ?_
          refine tkH 5 hS ?_
          refine tkH 6 hS ?_
          refine tkH 7 hS ?_
          refine tkH 8 hS ?_
          refine tkH 9 hS ?_
          refine tkH 10 (v := .bool false) hS ?_
          refine tkH 11 hS ?_
          refine wpAnyH_done (by kernel_rfl) ?_ _
          clear hS FR
          go_wp2
          go_loopw [22] (fun i wr2 => ∃ j : Nat, i = .int .i64 (j : Int) ∧ j ≤ lv.length ∧ PlB A b m w wr2 ∧ Two2 lv a1 c1 a2 c2 wr2) (fun i _ => lv.length - (intOf i).toNat)
          case atStart => exact ⟨0, rfl, Nat.zero_le _, HPB.out, HTw.out⟩
          case round =>
            obtain ⟨j, rfl, hj, hP2, hT2⟩ := hrel
            by_cases hjl : j < lv.length
            · obtain ⟨y, hy⟩ : ∃ y, lv[j]? = some y := ⟨_, List.getElem?_eq_getElem hjl⟩
              have hiv : (ivC lv)[j]? = some (.int .i64 ((y : Int) + 1)) := by unfold ivC; rw [List.getElem?_map, hy]; rfl
              obtain ⟨⟨B1, o1⟩, ⟨B2, o2⟩⟩ := hT2.drew
              obtain ⟨g1, rfl⟩ := rowp_at o1 (by omega)
              obtain ⟨g2, rfl⟩ := rowp_at o2 (by omega)
              have e1 := row1_cell o1 j _ hiv
              have e2 := row1_cell o2 j _ hiv
              have j0 : (0 : Int) ≤ (j : Int) := by omega
              have j1 : (j : Int) < (lv.length : Int) := by omega
              have jw : wrap64 ((j : Int) + 1) = (j : Int) + 1 := by rw [wr64] <;> omega
              have HP3 := Lib.hid hP2.drew
              have HT3 := Lib.hid hT2.drew
              clear hP2 hT2 o1 o2 hiv hy
              go_wp2_with fail
              refine wp_region_held_drew (S := fun u => u.cell? ⟨g1, j, none⟩ = some (.int .i64 ((y : Int) + 1)) ∧ u.cell? ⟨g2, j, none⟩ = some (.int .i64 ((y : Int) + 1)) ∧ PlB A b m w u ∧ Two2 lv (some ⟨g1, 0, none⟩) c1 (some ⟨g2, 0, none⟩) c2 u) (by kernel_rfl) ⟨e1, e2, HP3.out, HT3.out⟩ (fun hS => ?_)
              clear e1 e2 HP3 HT3
              refine tkH 0 hS ?_
              refine tkH 1 hS ?_
              refine tkH 2 (v := .pointer (some ⟨g1, j, none⟩)) hS ?_
              refine tkC 3 hS (fun u h => h.1) ?_
              refine tkH 4 hS ?_
              refine tkH 5 hS ?_
              refine tkH 6 (v := .pointer (some ⟨g2, j, none⟩)) hS ?_
              refine tkC 7 hS (fun u h => h.2.1) ?_
              refine tkH 8 (v := .bool false) hS ?_
              refine wpAnyH_done (by kernel_rfl) ?_ _
              have HE := Lib.hid hS
              clear hS hw1 h0k h1k d1 d2 d3 d4 q0
              (try clear hxf); (try clear e7); (try clear n1); (try clear n2); (try clear n3); (try clear n4); (try clear hll)
              go_wp2
              go_roundw
              case rel => exact ⟨j + 1, by rw [jw]; rfl, hjl, HE.out.2.2.1, HE.out.2.2.2⟩
              case measure => rw [jw]; exact meas15 hjl
            · obtain rfl : j = lv.length := by omega
              have j1 : ¬ (lv.length : Int) < (lv.length : Int) := by omega
              have HP3 := Lib.hid hP2
              clear hP2 hT2
              go_wp2
              go_roundw
              case rel => exact ⟨k + 1, b, A, rfl, rfl, hlt, HA2.out, HP3.out⟩
              case measure => exact meas15 hlt
    · obtain rfl : k = L.length := by omega
      have h1k : ¬ (L.length : Int) < (L.length : Int) := by omega
      have LA := Lib.hid (last_any b A src wr hA hP.T)
      have SE := Lib.hid (fun u (h : TAt u b A) => seen_any b A src seq u hA h)
      have RS := Lib.hid (fun u => rseen_any (absT A) (abs_ok hA) src seq u)
      rw [abs_seq hA.len] at RS
      have rcM : RC 71 (srC (absT A)) := sr_rc (abs_len hA.len)
      have HA := Lib.hid hA
      have HP := Lib.hid hP
      clear hA hP hk hlt HL HO HT1 HB1
      by_cases s1 : 1 ≤ src ∧ src ≤ 16
      rotate_left
      · have er : rowR A src = ⟨0, 0, 0⟩ := by unfold rowR; rw [if_pos (by omega)]
        rw [er] at LA SE RS
        have hd : (1 ≤ src ∧ src ≤ 16) = False := by simp only [s1]
        have hs : decide (1 ≤ src) = false ∨ (decide (1 ≤ src) = true ∧ decide (src ≤ 16) = false) := by
          by_cases q : 1 ≤ src
          · exact .inr ⟨by simpa using q, by simp; omega⟩
          · exact .inl (by simpa using q)
        clear s1 er hd
        rcases hs with t1 | ⟨t1, t2⟩
        · as_aux_lemma =>
            go_wp2_with fail
            refine LA.out.mono ?_
            rintro e w1 ⟨rfl, hb1⟩
            have hP1 := HP.out.below hb1
            have hP2 := hP1.below (below_cells (.cells #[.int .i64 0, .int .i64 0, .bool false, .int .i64 0] 29))
            have hX2 := At.nwb w1.heap.size w1 [.int .i64 0, .int .i64 0, .bool false, .int .i64 0] 29 rfl
            have HP2 := Lib.hid hP2
            have hX3 := Lib.hid hX2
            have e1 := hX2.free 0 _ rfl
            clear hb1 LA hP2 hX2 hP1
            go_wp2_with fail
            refine wp_region_held_drew (S := fun u => PlB A b m w u ∧ At u w1.heap.size [.int .i64 0, .int .i64 0, .bool false, .int .i64 0]) (by kernel_rfl) ⟨HP2.out.drew, hX3.out.drew⟩ (fun hS => ?_)
            clear HP2 HP
            refine tkH 0 hS ?_
            refine tkH 1 hS ?_
            refine tkC 2 hS (fun u h => h.2.cell 2 _ rfl) ?_
            refine tkH 3 (v := .bool true) hS ?_
            refine tkH 4 hS ?_
            refine tkH 5 hS ?_
            refine tkH 6 hS ?_
            refine tkC 7 hS (fun u h => h.2.cell 0 _ rfl) ?_
            refine tkH 8 (v := .bool true) hS ?_
            refine tkH 9 (v := .bool true) hS ?_
            refine tkH 10 hS ?_
            refine tkH 11 hS ?_
            refine tkH 12 hS ?_
            refine tkC 13 hS (fun u h => h.2.cell 1 _ rfl) ?_
            refine tkH 14 (v := .bool true) hS ?_
            refine tkH 15 (v := .bool true) hS ?_
            refine tkH 16 hS ?_
            refine tkH 17 hS ?_
            refine tkH 18 hS ?_
            refine tkH 19 hS ?_
            refine tkC 21 (v := .agg (srC (absT A)).toArray) hS (fun u h => h) ?_ (hy := ldY_v (fun u h => h.1.M) rowSrc rcM rfl rfl rfl)
            refine tkH 22 hS ?_
            refine tkH 23 hS ?_
            refine anyH_1 20 (fun K hK => ?_)
            go_simp
            go_at_call 20
            refine (SE.out _ hS.1.T).mono ?_
            rintro e w5 ⟨rfl, hb5⟩
            dsimp only
            refine hK.out _ _ ⟨hS.1.below hb5, hS.2.below hb5⟩ (fun hS => ?_)
            clear hK K hb5
            refine anyH_1 24 (fun K hK => ?_)
            go_simp
            go_at_call 21
            refine (RS.out _).mono ?_
            rintro e w6 ⟨rfl, hb6⟩
            dsimp only
            refine hK.out _ _ ⟨hS.1.below hb6, hS.2.below hb6⟩ (fun hS => ?_)
            clear hK K hb6
            refine tkH 25 (v := .bool true) hS ?_
            refine tkH 26 (v := .bool true) hS ?_
            refine tkH 27 hS ?_
            refine wpAnyH_done (by kernel_rfl) ?_ _
            go_wp2
            go_ret
            exact ⟨rfl, hS.1.B⟩
        · as_aux_lemma =>
            go_wp2_with fail
            refine LA.out.mono ?_
            rintro e w1 ⟨rfl, hb1⟩
            have hP1 := HP.out.below hb1
            have hP2 := hP1.below (below_cells (.cells #[.int .i64 0, .int .i64 0, .bool false, .int .i64 0] 29))
            have hX2 := At.nwb w1.heap.size w1 [.int .i64 0, .int .i64 0, .bool false, .int .i64 0] 29 rfl
            have HP2 := Lib.hid hP2
            have hX3 := Lib.hid hX2
            have e1 := hX2.free 0 _ rfl
            clear hb1 LA hP2 hX2 hP1
            go_wp2_with fail
            refine wp_region_held_drew (S := fun u => PlB A b m w u ∧ At u w1.heap.size [.int .i64 0, .int .i64 0, .bool false, .int .i64 0]) (by kernel_rfl) ⟨HP2.out.drew, hX3.out.drew⟩ (fun hS => ?_)
            clear HP2 HP
            refine tkH 0 hS ?_
            refine tkH 1 hS ?_
            refine tkC 2 hS (fun u h => h.2.cell 2 _ rfl) ?_
            refine tkH 3 (v := .bool true) hS ?_
            refine tkH 4 hS ?_
            refine tkH 5 hS ?_
            refine tkH 6 hS ?_
            refine tkC 7 hS (fun u h => h.2.cell 0 _ rfl) ?_
            refine tkH 8 (v := .bool true) hS ?_
            refine tkH 9 (v := .bool true) hS ?_
            refine tkH 10 hS ?_
            refine tkH 11 hS ?_
            refine tkH 12 hS ?_
            refine tkC 13 hS (fun u h => h.2.cell 1 _ rfl) ?_
            refine tkH 14 (v := .bool true) hS ?_
            refine tkH 15 (v := .bool true) hS ?_
            refine tkH 16 hS ?_
            refine tkH 17 hS ?_
            refine tkH 18 hS ?_
            refine tkH 19 hS ?_
            refine tkC 21 (v := .agg (srC (absT A)).toArray) hS (fun u h => h) ?_ (hy := ldY_v (fun u h => h.1.M) rowSrc rcM rfl rfl rfl)
            refine tkH 22 hS ?_
            refine tkH 23 hS ?_
            refine anyH_1 20 (fun K hK => ?_)
            go_simp
            go_at_call 20
            refine (SE.out _ hS.1.T).mono ?_
            rintro e w5 ⟨rfl, hb5⟩
            dsimp only
            refine hK.out _ _ ⟨hS.1.below hb5, hS.2.below hb5⟩ (fun hS => ?_)
            clear hK K hb5
            refine anyH_1 24 (fun K hK => ?_)
            go_simp
            go_at_call 21
            refine (RS.out _).mono ?_
            rintro e w6 ⟨rfl, hb6⟩
            dsimp only
            refine hK.out _ _ ⟨hS.1.below hb6, hS.2.below hb6⟩ (fun hS => ?_)
            clear hK K hb6
            refine tkH 25 (v := .bool true) hS ?_
            refine tkH 26 (v := .bool true) hS ?_
            refine tkH 27 hS ?_
            refine wpAnyH_done (by kernel_rfl) ?_ _
            go_wp2
            go_ret
            exact ⟨rfl, hS.1.B⟩
      · as_aux_lemma =>
          obtain ⟨i, hi, rfl⟩ : ∃ i : Nat, i < 16 ∧ src = (i : Int) + 1 := ⟨(src - 1).toNat, by omega, by omega⟩
          obtain ⟨er, hr⟩ := row_at A HA.out.len i hi
          rw [er] at LA SE RS
          have ha : (absT A).rest[i]? = some (absR A (nthR A i)) := by rw [abs_at, hr]; rfl
          have t1 : decide (1 ≤ (i : Int) + 1) = true := by simp; omega
          have t2 : decide ((i : Int) + 1 ≤ 16) = true := by simp; omega
          have t3 : (0 : Int) ≤ (i : Int) + 1 := by omega
          have t4 : (i : Int) + 1 < 17 := by omega
          have t5 : ((i : Int) + 1).toNat = i + 1 := by omega
          have hab : absR A (nthR A i) = ⟨(nthR A i).q, (nthR A i).t, decide (0 < (nthR A i).q), (absR A (nthR A i)).a⟩ := rfl
          rw [hab] at ha
          generalize (absR A (nthR A i)).a = ra at *
          generalize nthR A i = r at *
          clear s1 er hr hi hab
          go_wp2_with fail
          refine LA.out.mono ?_
          rintro e w1 ⟨rfl, hb1⟩
          have hP1 := HP.out.below hb1
          have hP2 := hP1.below (below_cells (.cells #[.int .i64 0, .int .i64 0, .bool false, .int .i64 0] 29))
          have hX2 := At.nwb w1.heap.size w1 [.int .i64 0, .int .i64 0, .bool false, .int .i64 0] 29 rfl
          obtain ⟨e0, e1, e2, e3⟩ := sr_cells hP2.M ha
          have f0 := hX2.free 0 _ rfl
          have f1 := hX2.free 1 _ rfl
          have f2 := hX2.free 2 _ rfl
          have f3 := hX2.free 3 _ rfl
          have h0 := hX2.cell 0 _ rfl
          have h1 := hX2.cell 1 _ rfl
          have h2 := hX2.cell 2 _ rfl
          have h3 := hX2.cell 3 _ rfl
          have hX3 := Lib.hid (At.nwb w1.heap.size w1 [.int .i64 r.q, .int .i64 r.t, .bool (decide (0 < r.q)), .int .i64 ra] 29 rfl)
          have hb3 := Lib.hid (below_cells (w := w1) (.cells #[.int .i64 r.q, .int .i64 r.t, .bool (decide (0 < r.q)), .int .i64 ra] 29))
          have HP2 := Lib.hid (hP1.below hb3.out)
          clear hb1 LA hP2 hX2 hP1 ha hb3
          go_wp2_with fail
          refine wp_region_held_drew (S := fun u => PlB A b m w u ∧ At u w1.heap.size [.int .i64 r.q, .int .i64 r.t, .bool (decide (0 < r.q)), .int .i64 ra]) (by kernel_rfl) ⟨HP2.out.drew, hX3.out.drew⟩ (fun hS => ?_)
          clear e0 e1 e2 e3 f0 f1 f2 f3 h0 h1 h2 h3 hX3
          clear HP2 HP
          refine tkH 0 hS ?_
          refine tkH 1 hS ?_
          refine tkC 2 hS (fun u h => h.2.cell 2 _ rfl) ?_
          refine tkH 3 (v := .bool true) hS ?_
          refine tkH 4 hS ?_
          refine tkH 5 hS ?_
          refine tkH 6 hS ?_
          refine tkC 7 hS (fun u h => h.2.cell 0 _ rfl) ?_
          refine tkH 8 (v := .bool true) hS ?_
          refine tkH 9 (v := .bool true) hS ?_
          refine tkH 10 hS ?_
          refine tkH 11 hS ?_
          refine tkH 12 hS ?_
          refine tkC 13 hS (fun u h => h.2.cell 1 _ rfl) ?_
          refine tkH 14 (v := .bool true) hS ?_
          refine tkH 15 (v := .bool true) hS ?_
          refine tkH 16 hS ?_
          refine tkH 17 hS ?_
          refine tkH 18 hS ?_
          refine tkH 19 hS ?_
          refine tkC 21 (v := .agg (srC (absT A)).toArray) hS (fun u h => h) ?_ (hy := ldY_v (fun u h => h.1.M) rowSrc rcM rfl rfl rfl)
          refine tkH 22 hS ?_
          refine tkH 23 hS ?_
          refine anyH_1 20 (fun K hK => ?_)
          go_simp
          go_at_call 20
          refine (SE.out _ hS.1.T).mono ?_
          rintro e w5 ⟨rfl, hb5⟩
          dsimp only
          refine hK.out _ _ ⟨hS.1.below hb5, hS.2.below hb5⟩ (fun hS => ?_)
          clear hK K hb5
          refine anyH_1 24 (fun K hK => ?_)
          go_simp
          go_at_call 21
          refine (RS.out _).mono ?_
          rintro e w6 ⟨rfl, hb6⟩
          dsimp only
          refine hK.out _ _ ⟨hS.1.below hb6, hS.2.below hb6⟩ (fun hS => ?_)
          clear hK K hb6
          refine tkH 25 (v := .bool true) hS ?_
          refine tkH 26 (v := .bool true) hS ?_
          refine tkH 27 hS ?_
          refine wpAnyH_done (by kernel_rfl) ?_ _
          go_wp2
          go_ret
          exact ⟨rfl, hS.1.B⟩
end Go.Proofs.YtoodcaonlfeleaaDoor
