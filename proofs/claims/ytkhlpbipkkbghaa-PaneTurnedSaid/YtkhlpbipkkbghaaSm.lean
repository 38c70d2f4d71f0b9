/- Samples in memory: belfrylaw6.Good, belfrylaw6.OfAll. -/
import Derived.Test.YtkhlpbipkkbghaaPaB
import Derived.Lib.SmallJoins
import Derived.Lib.OthersKept
namespace Go.Proofs.Ytkhlpbipkkbghaa
open Go Go.Proofs Go.RowKit Go.Shelf
set_option maxRecDepth 100000
attribute [local go_sem] cell_set Oper.semAt_some
/-- a sample's labels lie in memory -/
structure LabOK (W : World) (s : Smp) : Prop where
  g : LabsG W.heap.size W (.slice s.sa s.sn s.sc) s.zs
  n : s.zs.length ≤ 9223372036854775807
  b : ∀ x ∈ s.zs, x.1.length ≤ 9223372036854775807 ∧ x.2.length ≤ 9223372036854775807
theorem LabOK.below {W W' : World} {s : Smp} (h : LabOK W s) (hb : Below W.heap.size W W') : LabOK W' s := by
  refine ⟨?_, h.n, h.b⟩
  rcases h.g.below hb with e | ⟨b, off, cap, e, h1, h2⟩
  · exact .inl e
  · exact .inr ⟨b, off, cap, e, Nat.lt_of_lt_of_le h1 hb.size, h2⟩
theorem LabOK.short {W : World} {s : Smp} (h : LabOK W s) (hf : fewR s.zs = true) : ∃ ss : List SLab, ss.length ≤ 100 ∧ Labs W.heap.size W (.slice s.sa s.sn s.sc) ss := by
  obtain ⟨ss, e, hl⟩ := few_short hf
  exact ⟨ss, by omega, LabsG.toS (by rw [e]; exact h.g)⟩
def GoodP (w : World) (L : List Smp) (e : Ending) (w' : World) : Prop := ∃ b, e = .returned (.bool b) ∧ (b = true → L.length ≤ 80 ∧ ∀ s ∈ L, fewR s.zs = true) ∧ Below w.heap.size w w'
set_option maxHeartbeats 4000000 in
theorem good_any (a : Option Addr) (cap : Nat) (L : List Smp) (w : World) (hL : Smps w (.slice a L.length cap) L) (hO : ∀ s ∈ L, LabOK w s) :
    Calls Try.prog 8 #[.slice a L.length cap] w (GoodP w L) := by
  have HL := Lib.hid hL
  have HO := Lib.hid hO
  clear hL hO
  by_cases h80 : L.length ≤ 80
  · have q0 : ¬ (80 : Int) < (L.length : Int) := by omega
    go_enter Try.func8, Try.ntmps8
    go_wp2
    go_loopw [3] (fun i wr => ∃ k : Nat, i = .int .i64 (k : Int) ∧ k ≤ L.length ∧ (∀ s ∈ L.take k, fewR s.zs = true) ∧ Below w.heap.size w wr) (fun i _ => L.length - (intOf i).toNat)
    case atStart => exact ⟨0, rfl, Nat.zero_le _, by simp, Below.refl _ _⟩
    case round =>
      obtain ⟨k, rfl, hk, hF, B⟩ := hrel
      have HF := Lib.hid hF
      clear hF
      by_cases hlt : k < L.length
      · obtain ⟨s, hs⟩ : ∃ s, L[k]? = some s := ⟨_, List.getElem?_eq_getElem hlt⟩
        obtain ⟨b, off, rfl, hb, c0, c1, c2, c3, c4⟩ := (HL.out.below B).at hs
        have hk1 := (HO.out s (List.mem_of_getElem? hs)).below B
        have FW := Lib.hid (few_any s.sa s.sn s.sc s.zs hk1.n hk1.b _ wr hk1.g)
        have h0k : (0 : Int) ≤ (k : Int) := by omega
        have h1k : (k : Int) < (L.length : Int) := by omega
        have HS := Lib.hid hs
        cases hf : fewR s.zs
        · rw [hf] at FW
          clear hs hk1 hf
          go_wp2_with fail
          refine FW.out.mono ?_
          rintro e w1 ⟨rfl, rfl⟩
          go_wp2
          go_ret
          exact ⟨false, rfl, (by simp), B⟩
        · obtain ⟨ss, hss, hls⟩ := hk1.short hf
          have HF2 : Hid (∀ q ∈ L.take (k + 1), fewR q.zs = true) := by
            intro q hq
            rw [snoc_at hs] at hq
            rcases List.mem_append.1 hq with h | h
            · exact HF.out q h
            · obtain rfl := List.mem_singleton.1 h
              exact hf
          rw [hf] at FW
          have O6 := Lib.hid (of6_any s.sa s.sn s.sc ss hss s.x.v s.x.t s.x.s s.x.q wr hls)
          have H100 := Lib.hid hss
          clear hs hk1 hf hls hss
          unfold sampV at O6
          go_wp2_with fail
          refine FW.out.mono ?_
          rintro e w1 ⟨rfl, rfl⟩
          go_wp2_with fail
          refine O6.out.mono ?_
          rintro e w1 ⟨v, rfl, hv, hb1⟩
          obtain ⟨va, vn, vc, rfl⟩ := slice_of_labs6 hv
          have CS := Lib.hid (rsamp_any va vn vc ss H100.out s.x.v s.x.t s.x.s s.x.q w1 hv)
          have B1 := below_then B hb1
          clear hv hb1 c0 c1 c2 c3 c4
          generalize sampR ss s.x.t s.x.s s.x.q = cc at *
          by_cases hc : cc = 0
          · subst hc
            go_wp2_with fail
            refine CS.out.mono ?_
            rintro e w2 ⟨rfl, hb2⟩
            have B2 := below_then B1 hb2
            clear hb2
            go_wp2
            go_roundw
            case rel => exact ⟨k + 1, by go_num, by omega, HF2.out, B2⟩
            case measure => simp [intOf]; omega
          · have nc : (cc != 0) = true := by rw [bne_iff_ne]; exact hc
            go_wp2_with fail
            refine CS.out.mono ?_
            rintro e w2 ⟨rfl, hb2⟩
            have B2 := below_then B1 hb2
            clear hb2
            go_wp2
            go_ret
            exact ⟨false, rfl, (by simp), B2⟩
      · obtain rfl : k = L.length := by omega
        rw [List.take_length] at HF
        have h1k : ¬ (L.length : Int) < (L.length : Int) := by omega
        go_wp2
        go_ret
        exact ⟨true, rfl, fun _ => ⟨h80, HF.out⟩, B⟩
  · have q0 : (80 : Int) < (L.length : Int) := by omega
    go_enter Try.func8, Try.ntmps8
    go_wp2
    go_ret
    exact ⟨false, rfl, (by simp), Below.refl _ _⟩
theorem info_rsmp : (Try.prog.info? 61).map (fun i => (i.zero, i.size, i.bytes)) = some (some (.agg #[.slice none 0 0, .int .i64 0, .int .i64 0, .int .i64 0, .int .i64 0]), 5, 56) := by kernel_rfl
/-- the cells of a row of samples -/
def smpC (L : List Smp) : List Value := L.flatMap Smp.C
theorem smpC_snoc (L : List Smp) (s : Smp) : smpC (L ++ [s]) = smpC L ++ s.C := by unfold smpC; simp
theorem smpC_app (A B : List Smp) : smpC (A ++ B) = smpC A ++ smpC B := by unfold smpC; simp
theorem smpC_len (L : List Smp) : (smpC L).length = L.length * 5 := by
  induction L with
  | nil => rfl
  | cons s t ih =>
    have e : smpC (s :: t) = s.C ++ smpC t := by unfold smpC; simp
    rw [e, List.length_append, ih, List.length_cons]
    show 5 + _ = _
    omega
theorem smpC_at : ∀ (L : List Smp) (j : Nat) (s : Smp), L[j]? = some s → ∀ i v, s.C[i]? = some v → (smpC L)[j * 5 + i]? = some v := by
  intro L
  induction L with
  | nil => intro j s h; simp at h
  | cons s0 t ih =>
    intro j s h i v hv
    have hi : i < 5 := (List.getElem?_eq_some_iff.1 hv).1
    have e : smpC (s0 :: t) = s0.C ++ smpC t := by unfold smpC; simp
    have e5 : s0.C.length = 5 := rfl
    rw [e]
    cases j with
    | zero =>
      obtain rfl : s0 = s := by simpa using h
      rw [List.getElem?_append_left (by omega), Nat.zero_mul, Nat.zero_add]; exact hv
    | succ j =>
      rw [List.getElem?_append_right (by omega), e5, show (j + 1) * 5 + i - 5 = j * 5 + i by omega]
      exact ih j s (by simpa using h) i v hv
theorem smps_of_row {W : World} {base : Nat} {e : TypeId} {v : Value} {L : List Smp} (h : W.ownsRow base e 5 v L.length (smpC L)) : Smps W v L := by
  have hc := fun g => World.ownsRow.cells h (g := g)
  have hlt := World.ownsRow.lt h
  rcases h.2 with ⟨rfl, hn⟩ | ⟨g, cap, cur, rfl, _⟩
  · exact .inl ⟨List.eq_nil_of_length_eq_zero hn, _, _, rfl⟩
  · refine .inr ⟨g, 0, cap, rfl, (hlt g rfl).2, fun j s hj i u hu => ?_⟩
    have := hc g rfl (j * 5 + i) u (smpC_at L j s hj i u hu)
    rw [Addr.add_lit, Nat.zero_add] at this
    rw [Nat.zero_add]
    simpa using this
theorem cells_nw (W : World) (l : List Value) (T : TypeId) : ∀ j x, l[j]? = some x → (W.alloc (.cells l.toArray T)).cell? ((⟨W.heap.size, 0, none⟩ : Addr).add j) = some x := by
  intro j x h
  have e : ((⟨W.heap.size, 0, none⟩ : Addr).add j) = ⟨W.heap.size, j, none⟩ := by rw [Addr.add_lit]; simp
  rw [e]
  exact (At.nw W l T).cell j x h
theorem grown_below {W w2 : World} (hb : Below W.heap.size W w2) : W.grownBy w2 none := ⟨hb.os, hb.tape, hb.output, hb.size, fun k hk _ => hb.block k hk⟩
/-- samples of the reference's type, of the same numbers, in memory of the call's own -/
def OfAllP (w : World) (L : List Smp) (e : Ending) (w' : World) : Prop := ∃ a c, ∃ R : List Smp, e = .returned (.slice a R.length c) ∧ nums R = nums L ∧ Smps w' (.slice a R.length c) R ∧ Below w.heap.size w w'
theorem row_slice {W : World} {base n : Nat} {e : TypeId} {k : Nat} {v : Value} {xs : List Value} (h : W.ownsRow base e k v n xs) : ∃ a c, v = .slice a n c := by
  rcases h.2 with ⟨rfl, h0⟩ | ⟨g, cap, cur, rfl, _⟩
  · rw [h0]; exact ⟨_, _, rfl⟩
  · exact ⟨_, _, rfl⟩
open Go.Lib in
set_option maxHeartbeats 4000000 in
theorem ofall_any (a : Option Addr) (cap : Nat) (L : List Smp) (hl : L.length ≤ 80) (w : World) (hL : Smps w (.slice a L.length cap) L) (hO : ∀ s ∈ L, LabOK w s) (hf : ∀ s ∈ L, fewR s.zs = true) :
    Calls Try.prog 11 #[.slice a L.length cap] w (OfAllP w L) := by
  obtain ⟨i0, hi, hz0, hz1, hz2⟩ := info_parts info_rsmp
  have HI := Lib.hid hi
  have HZ := Lib.hid hz0
  have HZ1 := Lib.hid hz1
  have HZ2 := Lib.hid hz2
  have HL := Lib.hid hL
  have HO := Lib.hid hO
  have HF := Lib.hid hf
  clear hL hO hf hi hz0 hz1 hz2
  go_enter Try.func11, Try.ntmps11
  go_wp2
  go_loopw [3, 4] (fun v i wr => ∃ k : Nat, i = .int .i64 (k : Int) ∧ k ≤ L.length ∧ (∃ R : List Smp, R.length = k ∧ nums R = nums (L.take k) ∧ wr.ownsRow w.heap.size 61 5 v k (smpC R)) ∧ Below w.heap.size w wr) (fun _ i _ => L.length - (RowKit.intOf i).toNat)
  case atStart => exact ⟨0, rfl, Nat.zero_le _, ⟨[], rfl, rfl, World.ownsRow_nil _ _ _ _⟩, Below.refl _ _⟩
  case round =>
    obtain ⟨k, rfl, hk, ⟨R, hRl, hRn, hR⟩, B⟩ := hrel
    by_cases hlt : k < L.length
    · obtain ⟨s, hs⟩ : ∃ s, L[k]? = some s := ⟨_, List.getElem?_eq_getElem hlt⟩
      obtain ⟨b, off, rfl, hb, c0, c1, c2, c3, c4⟩ := (HL.out.below B).at hs
      have hk1 := (HO.out s (List.mem_of_getElem? hs)).below B
      obtain ⟨ss, hss, hls⟩ := hk1.short (HF.out s (List.mem_of_getElem? hs))
      have O6 := Lib.hid (of6_any s.sa s.sn s.sc ss hss s.x.v s.x.t s.x.s s.x.q wr hls)
      have HN : Hid (nums (L.take (k + 1)) = nums R ++ [s.x]) := by
        unfold Hid
        rw [snoc_at hs, nums_app, hRn]; rfl
      have h0k : (0 : Int) ≤ (k : Int) := by omega
      have h1k : (k : Int) < (L.length : Int) := by omega
      have HR := Lib.hid hR
      have HRl := Lib.hid hRl
      clear hs hk1 hls hss hRn hR hRl
      unfold sampV at O6
      go_wp2_with fail
      refine O6.out.mono ?_
      rintro e w1 ⟨v, rfl, hv, hb1⟩
      obtain ⟨va, vn, vc, rfl⟩ := slice_of_labs6 hv
      have hR1 : w1.ownsRow w.heap.size 61 5 u3 k (smpC R) := HR.out.kept (grown_below hb1) (by
        rcases q : u3.ownBlock with _ | z
        · exact .inl rfl
        · exact .inr (by simp))
      have B1 := below_then B hb1
      have hz3 : w.heap.size ≤ w1.heap.size := B1.size
      have HR1 := Lib.hid hR1
      clear hb1 hv hR1 c0 c1 c2 c3 c4 HR
      go_wp2_with (at_builtin; refine wpList_append_own _ rfl _ _ 35 rfl w.heap.size 61 i0 (.agg #[.slice none 0 0, .int .i64 0, .int .i64 0, .int .i64 0, .int .i64 0]) 5 56 Try.underlying35 HI.out HZ.out HZ1.out HZ2.out rfl (by decide) _ k _ rfl (World.ownsRow.alloc HR1.out _) ⟨w1.heap.size, 0, none⟩ 1 1 [.slice va vn vc, .int .i64 s.x.v, .int .i64 s.x.t, .int .i64 s.x.s, .int .i64 s.x.q] rfl rfl (cells_nw w1 [.slice va vn vc, .int .i64 s.x.v, .int .i64 s.x.t, .int .i64 s.x.s, .int .i64 s.x.q] _) (by intro u hu; simp at hu; rcases hu with rfl | rfl | rfl | rfl | rfl <;> rfl) (by unfold maxLen; omega) (by omega) (by simp; omega) ?_)
      intro v3 w3 own3 g3 _
      have B3 : Below w.heap.size w w3 := (B1.alloc hz3 _).grown g3 (by simp; omega) (fun q e => (World.ownsRow.lt HR1.out q e).1)
      have HO3 : Hid (∃ R2 : List Smp, R2.length = k + 1 ∧ nums R2 = nums (L.take (k + 1)) ∧ w3.ownsRow w.heap.size 61 5 v3 (k + 1) (smpC R2)) :=
        ⟨R ++ [⟨va, vn, vc, [], s.x⟩], by rw [List.length_append, HRl.out]; rfl, by rw [HN.out, nums_app]; rfl, by rw [smpC_snoc]; exact own3⟩
      clear own3 g3 HR1 B1
      go_wp2
      go_roundw
      case rel => exact ⟨k + 1, by go_num, by omega, HO3.out, B3⟩
      case measure => simp [RowKit.intOf]; omega
    · obtain rfl : k = L.length := by omega
      rw [List.take_length] at hRn
      have h1k : ¬ (L.length : Int) < (L.length : Int) := by omega
      obtain ⟨ra, rc, rfl⟩ := row_slice hR
      rw [← hRl] at hR
      have HE : Hid (OfAllP w L (.returned (.slice ra R.length rc)) wr) := ⟨ra, rc, R, rfl, hRn, smps_of_row hR, B⟩
      rw [hRl] at HE
      clear hR hRn hRl
      go_wp2
      go_ret
      exact HE.out
end Go.Proofs.Ytkhlpbipkkbghaa
