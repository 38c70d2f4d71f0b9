/- belfrylaw6.known: what its calls answer. -/
import Derived.Test.YtgldieboflmnhaaGreatDoorLParse2
import Derived.Test.YtgldieboflmnhaaGreatDoorLine
namespace Go.Proofs.YtgldieboflmnhaaGreatDoor
open Go Go.Proofs Go.RowKit Go.Shelf
set_option maxRecDepth 100000
def kC : SLab := ⟨([109], [99, 112, 117]), by unfold Short; simp⟩
def kT1 : List UInt8 := [123, 109, 61, 34, 99, 112, 117, 34, 125, 32, 45, 52, 32, 64, 49, 48, 32, 35, 50, 47, 55]
def kT2 : List UInt8 := [123, 109, 61, 34, 99, 112, 117, 34, 125, 32, 32, 45, 52, 32, 64, 49, 48, 32, 35, 50, 47, 55]
def kT3 : List UInt8 := [123, 109, 61, 34, 99, 112, 117, 34, 125, 32, 45, 52, 32, 64, 49, 48, 32, 35, 49, 55, 47, 55]
theorem kc_text : textL [kC] = [123, 109, 61, 34, 99, 112, 117, 34, 125] := by decide
theorem kc_check : checkR [kC] = 0 := by decide
theorem it4 : Lib.itoa (-4) = [45, 52] := by simp [Lib.itoa, Lib.decDigits]
theorem it10 : Lib.itoa 10 = [49, 48] := by simp [Lib.itoa, Lib.decDigits]
theorem it2 : Lib.itoa 2 = [50] := by simp [Lib.itoa, Lib.decDigits]
theorem it7 : Lib.itoa 7 = [55] := by simp [Lib.itoa, Lib.decDigits]
theorem it17 : Lib.itoa 17 = [49, 55] := by simp [Lib.itoa, Lib.decDigits]
theorem kt1_is : lineR [kC] (-4) 10 2 7 = kT1 := by
  rw [lineR_tail, kc_text]; unfold tailR; rw [it4, it10, it2, it7]; rfl
theorem kt3_is : lineR [kC] (-4) 10 17 7 = kT3 := by
  rw [lineR_tail, kc_text]; unfold tailR; rw [it4, it10, it17, it7]; rfl
/-- Parse of any set's line that label.Parse takes -/
theorem lparse_line (zs : List SLab) (hz : checkR zs = 0) (va tm sr sq : Int) (k0 : I64 va) (k1 : I64 tm) (k2 : I64 sr) (k3 : I64 sq) (w : World) (ht : Tab w) (he : ErrsOk w) :
    Calls Tryz.prog 13 #[.string ⟨(lineR zs va tm sr sq).toArray⟩] w fun e w' => (sampR zs tm sr sq = 0 ∧ (∃ v, e = .returned (.tuple #[sampV v va tm sr sq, .int .i64 0]) ∧ Labs w'.heap.size w' v zs) ∨ sampR zs tm sr sq ≠ 0 ∧ e = .returned (.tuple #[sampV (.slice none 0 0) 0 0 0 0, .int .i64 (sampR zs tm sr sq)])) ∧ Below w.heap.size w w' := by
  have hl := (check_zero hz).1
  have hd : (lineR zs va tm sr sq).drop (textL zs).length = tailR va tm sr sq := by rw [lineR_tail, List.drop_left]
  have htk : (lineR zs va tm sr sq).take (textL zs).length = textL zs := by rw [lineR_tail, List.take_left]
  obtain ⟨h1, h2⟩ := tail_run va tm sr sq k0 k1 k2 k3
  refine lparse_ok (lineR zs va tm sr sq) (line_len zs (by omega) va tm sr sq k0 k1 k2 k3) (textL zs).length (by rw [lineR_tail, List.length_append]; omega) (last_line zs va tm sr sq) va tm sr sq (by rw [hd]; exact h1) (by rw [hd]; exact h2) zs (by omega) w ht he ?_
  intro W hW
  rw [htk]
  exact parse_text zs hz W
theorem k_p1 (w : World) (ht : Tab w) (he : ErrsOk w) : Calls Tryz.prog 13 #[.string ⟨#[123, 109, 61, 34, 99, 112, 117, 34, 125, 32, 45, 52, 32, 64, 49, 48, 32, 35, 50, 47, 55]⟩] w fun e w' => (∃ v, e = .returned (.tuple #[sampV v (-4) 10 2 7, .int .i64 0]) ∧ Labs w'.heap.size w' v [kC]) ∧ Below w.heap.size w w' := by
  have h := lparse_line [kC] kc_check (-4) 10 2 7 (by unfold I64; omega) (by unfold I64; omega) (by unfold I64; omega) (by unfold I64; omega) w ht he
  rw [kt1_is] at h
  refine h.mono ?_
  rintro e w' ⟨⟨_, h1⟩ | ⟨h1, _⟩, h2⟩
  · exact ⟨h1, h2⟩
  · exact absurd (show sampR [kC] 10 2 7 = 0 by decide) h1
theorem k_p3 (w : World) (ht : Tab w) (he : ErrsOk w) : Calls Tryz.prog 13 #[.string ⟨#[123, 109, 61, 34, 99, 112, 117, 34, 125, 32, 45, 52, 32, 64, 49, 48, 32, 35, 49, 55, 47, 55]⟩] w fun e w' => e = .returned (.tuple #[sampV (.slice none 0 0) 0 0 0 0, .int .i64 1]) ∧ Below w.heap.size w w' := by
  have h := lparse_line [kC] kc_check (-4) 10 17 7 (by unfold I64; omega) (by unfold I64; omega) (by unfold I64; omega) (by unfold I64; omega) w ht he
  rw [kt3_is, show sampR [kC] 10 17 7 = 1 by decide] at h
  refine h.mono ?_
  rintro e w' ⟨⟨h1, _⟩ | ⟨_, h1⟩, h2⟩
  · exact absurd h1 (by decide)
  · exact ⟨h1, h2⟩
theorem k_p2 (w : World) (ht : Tab w) (he : ErrsOk w) : Calls Tryz.prog 13 #[.string ⟨#[123, 109, 61, 34, 99, 112, 117, 34, 125, 32, 32, 45, 52, 32, 64, 49, 48, 32, 35, 50, 47, 55]⟩] w fun e w' => e = .returned (.tuple #[sampV (.slice none 0 0) 0 0 0 0, .int .i64 2]) ∧ Below w.heap.size w w' := by
  have hi := lastb_at [123, 109, 61, 34, 99, 112, 117, 34] [32, 32, 45, 52, 32, 64, 49, 48, 32, 35, 50, 47, 55] (by decide)
  refine lparse_bad kT2 (by decide) 9 (by decide) ?_ ?_ w ht he
  · have : Lib.lastIndexByte ⟨kT2.toArray⟩ 125 = 8 := hi
    rw [this]; rfl
  · have hb : behindR 0 (kT2.drop 9) = [32, 45, 52, 32, 64, 49, 48, 32, 35, 50, 47, 55] := by decide
    have hr : restR 0 (kT2.drop 9) = [32, 45, 52, 32, 64, 49, 48, 32, 35, 50, 47, 55] := by decide
    have hn : numR 0 (kT2.drop 9) = [] := by unfold numR; rw [hb, hr]; rfl
    have h0 : Lib.itoa 0 = [48] := by simp [Lib.itoa, Lib.decDigits]
    have ho : okR 0 (kT2.drop 9) = false := by
      unfold okR
      rw [hn, show numOf [] = 0 from rfl, h0]
      simp
    unfold numsOk allR allRa
    rw [ho]; rfl
theorem k_text (a : Option Addr) (n cap : Nat) (w : World) (ht : Tab w) (hI : Labs w.heap.size w (.slice a n cap) [kC]) : Calls Tryz.prog 12 #[sampV (.slice a n cap) (-4) 10 2 7] w fun e w' => e = .returned (.string ⟨#[123, 109, 61, 34, 99, 112, 117, 34, 125, 32, 45, 52, 32, 64, 49, 48, 32, 35, 50, 47, 55]⟩) ∧ Below w.heap.size w w' := by
  have h := lineText_any a n cap [kC] (by decide) (-4) 10 2 7 (by unfold I64; omega) (by unfold I64; omega) (by unfold I64; omega) (by unfold I64; omega) w ht hI
  rw [kt1_is] at h
  exact h
theorem k_check (a : Option Addr) (n cap : Nat) (w : World) (hI : Labs w.heap.size w (.slice a n cap) [kC]) : Calls Tryz.prog 10 #[sampV (.slice a n cap) (-4) 10 2 7] w fun e w' => e = .returned (.int .i64 0) ∧ Below w.heap.size w w' := by
  have h := lcheck_any a n cap [kC] (by decide) (-4) 10 2 7 w hI
  rw [show sampR [kC] 10 2 7 = 0 by decide] at h
  exact h
end Go.Proofs.YtgldieboflmnhaaGreatDoor
/- belfrylaw6.known: the walk. -/
namespace Go.Proofs.YtgldieboflmnhaaGreatDoor
open Go Go.Proofs Go.RowKit Go.Shelf
set_option maxRecDepth 100000
attribute [local go_sem] Oper.semAt_some
theorem k_cmp6 (va vb : Value) (w : World) : Calls Tryz.prog 11 #[sampV va (-4) 10 2 7, sampV vb (-4) 10 2 8] w fun e w' => e = .returned (.int .i64 (-1)) ∧ Below w.heap.size w w' := by
  have h := lcompare_any va vb (-4) 10 2 7 (-4) 10 2 8 w
  rw [show cmpS 10 2 7 10 2 8 = -1 by decide] at h
  exact h
theorem slice_of_labs {n₀ : Nat} {W : World} {v : Value} {zs : List SLab} (h : Labs n₀ W v zs) : ∃ a n cap, v = .slice a n cap := by
  rcases h with ⟨⟨_, _, rfl⟩, _⟩ | ⟨b, off, cap, rfl, _⟩
  · exact ⟨_, _, _, rfl⟩
  · exact ⟨_, _, _, rfl⟩
theorem labs_kc (w : World) : Labs (w.alloc (.cells #[.string ⟨#[109]⟩, .string ⟨#[99, 112, 117]⟩] 45)).heap.size (w.alloc (.cells #[.string ⟨#[109]⟩, .string ⟨#[99, 112, 117]⟩] 45)) (.slice (some ⟨w.heap.size, 0, none⟩) 1 1) [kC] := by
  have h := blk_at (blk_new w #[.string ⟨#[109]⟩, .string ⟨#[99, 112, 117]⟩] 45)
  refine .inr ⟨w.heap.size, 0, 1, rfl, by simp, fun j x hj => ?_⟩
  rcases j with _ | j
  · simp at hj
    subst hj
    exact ⟨h.cell 0 _ rfl, h.cell 1 _ rfl⟩
  · simp at hj
set_option maxHeartbeats 4000000 in
theorem known_any (w : World) (ht : Tab w) (he : ErrsOk w) : Calls Tryz.prog 5 #[] w fun e w' => e = .returned (.bool true) ∧ Below w.heap.size w w' := by
  have P1 := Lib.hid (fun W (hW : Below w.heap.size w W) => k_p1 W (ht.below hW) (he.below hW))
  have P2 := Lib.hid (fun W (hW : Below w.heap.size w W) => k_p2 W (ht.below hW) (he.below hW))
  have P3 := Lib.hid (fun W (hW : Below w.heap.size w W) => k_p3 W (ht.below hW) (he.below hW))
  have TX := Lib.hid (fun a n cap W (hW : Below w.heap.size w W) (hI : Labs W.heap.size W (.slice a n cap) [kC]) => k_text a n cap W (ht.below hW) hI)
  have CK := Lib.hid (fun a n cap W (hI : Labs W.heap.size W (.slice a n cap) [kC]) => k_check a n cap W hI)
  have CM := Lib.hid (fun va vb W => k_cmp6 va vb W)
  unfold sampV at *
  go_enter Tryz.func5, Tryz.ntmps5
  go_wp2_with fail
  have LS := labs_on (labs_kc w) (below_cells (w := w.alloc (.cells #[.string ⟨#[109]⟩, .string ⟨#[99, 112, 117]⟩] 45)) (.cells #[.slice (some ⟨w.heap.size, 0, none⟩) 1 1, .int .i64 (-4), .int .i64 10, .int .i64 2, .int .i64 7] 25))
  have DS := blk_new (w.alloc (.cells #[.string ⟨#[109]⟩, .string ⟨#[99, 112, 117]⟩] 45)) #[.slice (some ⟨w.heap.size, 0, none⟩) 1 1, .int .i64 (-4), .int .i64 10, .int .i64 2, .int .i64 7] 25
  have B := below_new (below_cells (w := w) (.cells #[.string ⟨#[109]⟩, .string ⟨#[99, 112, 117]⟩] 45)) (.cells #[.slice (some ⟨w.heap.size, 0, none⟩) 1 1, .int .i64 (-4), .int .i64 10, .int .i64 2, .int .i64 7] 25)
  rw [World.size_alloc] at DS
  refine (P1.out _ B).mono ?_
  rintro e w1 ⟨⟨v1, rfl, hL1⟩, hb1⟩
  obtain ⟨a, n, cap, rfl⟩ := slice_of_labs hL1
  have LS1 := labs_on LS hb1
  have DS1 := blk_on DS hb1
  have B1 := B.trans (hb1.mono B.size)
  clear LS DS B hb1
  go_wp2_with fail
  have DX := blk_new w1 #[.slice a n cap, .int .i64 (-4), .int .i64 10, .int .i64 2, .int .i64 7] 25
  have cx := below_cells (w := w1) (.cells #[.slice a n cap, .int .i64 (-4), .int .i64 10, .int .i64 2, .int .i64 7] 25)
  have LS2 := labs_on LS1 cx
  have LX := labs_on hL1 cx
  have DS2 := blk_on DS1 cx
  have B2 := B1.trans (cx.mono B1.size)
  clear LS1 hL1 DS1 B1 cx
  refine (P2.out _ B2).mono ?_
  rintro e w2 ⟨rfl, hb⟩
  have DX2 := blk_on DX hb
  have LS3 := labs_on LS2 hb
  have LX2 := labs_on LX hb
  have DS3 := blk_on DS2 hb
  have B3 := B2.trans (hb.mono B2.size)
  clear LS2 DS2 B2 hb DX LX
  go_wp2_with fail
  have cx := below_cells (w := w2) (.cells #[.slice none 0 0, .int .i64 0, .int .i64 0, .int .i64 0, .int .i64 0] 25)
  have DX := blk_on DX2 cx
  have LS2 := labs_on LS3 cx
  have LX := labs_on LX2 cx
  have DS2 := blk_on DS3 cx
  have B2 := B3.trans (cx.mono B3.size)
  clear LS3 LX2 DS3 B3 DX2 cx
  refine (P3.out _ B2).mono ?_
  rintro e w3 ⟨rfl, hb⟩
  have DX2 := blk_on DX hb
  have LS3 := labs_on LS2 hb
  have LX2 := labs_on LX hb
  have DS3 := blk_on DS2 hb
  have B3 := B2.trans (hb.mono B2.size)
  clear LS2 DS2 B2 hb DX LX
  have cx := below_cells (w := w3) (.cells #[.slice none 0 0, .int .i64 0, .int .i64 0, .int .i64 0, .int .i64 0] 25)
  have DX := blk_on DX2 cx
  have LS2 := labs_on LS3 cx
  have LX := labs_on LX2 cx
  have DS2 := blk_on DS3 cx
  have B2 := B3.trans (cx.mono B3.size)
  clear LS3 LX2 DS3 B3 DX2 cx
  have c0 := (blk_at DS2).cell 0 _ rfl
  have c1 := (blk_at DS2).cell 1 _ rfl
  have c2 := (blk_at DS2).cell 2 _ rfl
  have c3 := (blk_at DS2).cell 3 _ rfl
  have c4 := (blk_at DS2).cell 4 _ rfl
  have hz4 : (w3.alloc (.cells #[.slice none 0 0, .int .i64 0, .int .i64 0, .int .i64 0, .int .i64 0] 25)).heap.size = w3.heap.size + 1 := by simp
  obtain ⟨W5, hW5⟩ : ∃ W5, ((w3.alloc (.cells #[.slice none 0 0, .int .i64 0, .int .i64 0, .int .i64 0, .int .i64 0] 25)).alloc (.cells #[.slice (some ⟨w.heap.size, 0, none⟩) 1 1, .int .i64 (-4), .int .i64 10, .int .i64 2, .int .i64 7] 25)).setCell ⟨w3.heap.size + 1, 4, none⟩ (.int .i64 8) = W5 := ⟨_, rfl⟩
  have b5 : Below (w3.alloc (.cells #[.slice none 0 0, .int .i64 0, .int .i64 0, .int .i64 0, .int .i64 0] 25)).heap.size (w3.alloc (.cells #[.slice none 0 0, .int .i64 0, .int .i64 0, .int .i64 0, .int .i64 0] 25)) W5 := by rw [← hW5]; exact (below_cells _).setCell (by rw [hz4]; simp) _
  have DY : Blk W5 (w3.heap.size + 1) #[.slice (some ⟨w.heap.size, 0, none⟩) 1 1, .int .i64 (-4), .int .i64 10, .int .i64 2, .int .i64 8] 25 := by
    have h := blk_new (w3.alloc (.cells #[.slice none 0 0, .int .i64 0, .int .i64 0, .int .i64 0, .int .i64 0] 25)) #[.slice (some ⟨w.heap.size, 0, none⟩) 1 1, .int .i64 (-4), .int .i64 10, .int .i64 2, .int .i64 7] 25
    rw [hz4] at h
    rw [← hW5]
    exact blk_set (j := 4) h (.int .i64 8)
  have DX5 := blk_on DX b5
  have LX5 := labs_on LX b5
  have DS5 := blk_on DS2 b5
  have LS5 := labs_on LS2 b5
  have B5 := B2.trans (b5.mono B2.size)
  clear DX LX LS2 DS2 B2 b5
  have x0 := (blk_at DX5).cell 0 _ rfl
  have x1 := (blk_at DX5).cell 1 _ rfl
  have x2 := (blk_at DX5).cell 2 _ rfl
  have x3 := (blk_at DX5).cell 3 _ rfl
  have x4 := (blk_at DX5).cell 4 _ rfl
  go_wp2_with fail
  refine (TX.out _ _ _ _ B5 LX5).mono ?_
  rintro e w6 ⟨rfl, hb6⟩
  have B6 := B5.trans (hb6.mono B5.size)
  have DX6 := blk_on DX5 hb6
  have DS6 := blk_on DS5 hb6
  have DY6 := blk_on DY hb6
  have LS6 := labs_on LS5 hb6
  clear x0 x1 x2 x3 x4 DX5 DS5 DY LS5 LX5 B5 hb6 c0 c1 c2 c3 c4 hW5
  have x1 := (blk_at DX6).cell 1 _ rfl
  have s0 := (blk_at DS6).cell 0 _ rfl
  have s1 := (blk_at DS6).cell 1 _ rfl
  have s2 := (blk_at DS6).cell 2 _ rfl
  have s3 := (blk_at DS6).cell 3 _ rfl
  have s4 := (blk_at DS6).cell 4 _ rfl
  go_wp2_with fail
  refine (CK.out _ _ _ _ LS6).mono ?_
  rintro e w7 ⟨rfl, hb7⟩
  have B7 := B6.trans (hb7.mono B6.size)
  have DS7 := blk_on DS6 hb7
  have DY7 := blk_on DY6 hb7
  clear x1 s0 s1 s2 s3 s4 DX6 DS6 DY6 LS6 B6 hb7
  have s0 := (blk_at DS7).cell 0 _ rfl
  have s1 := (blk_at DS7).cell 1 _ rfl
  have s2 := (blk_at DS7).cell 2 _ rfl
  have s3 := (blk_at DS7).cell 3 _ rfl
  have s4 := (blk_at DS7).cell 4 _ rfl
  have y0 := (blk_at DY7).cell 0 _ rfl
  have y1 := (blk_at DY7).cell 1 _ rfl
  have y2 := (blk_at DY7).cell 2 _ rfl
  have y3 := (blk_at DY7).cell 3 _ rfl
  have y4 := (blk_at DY7).cell 4 _ rfl
  go_wp2_with fail
  refine (CM.out _ _ _).mono ?_
  rintro e w8 ⟨rfl, hb8⟩
  go_wp2
  go_ret
  exact ⟨rfl, B7.trans (hb8.mono B7.size)⟩
end Go.Proofs.YtgldieboflmnhaaGreatDoor
