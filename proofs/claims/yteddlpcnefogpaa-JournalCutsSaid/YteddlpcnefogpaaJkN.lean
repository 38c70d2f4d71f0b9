/- belfrylaw11.known: two records, one of which is torn: true. -/
import Derived.Test.YteddlpcnefogpaaJkA
namespace Go.Proofs.Yteddlpcnefogpaa
open Go Go.Proofs Go.RowKit Go.Shelf
set_option maxRecDepth 100000
def k1 : Rec := (101, [97, 98])
def k2 : Rec := (102, [99])
def kE1 : List UInt8 := [2, 0, 101, 97, 98, 101]
def kA : Dk := ⟨[2, 0, 101, 97, 98, 101], 0, false, 0, 0, 1⟩
def kB : Dk := ⟨[2, 0, 101, 97, 98, 101], 6, false, 0, 0, 2⟩
def kC : Dk := ⟨[2, 0, 101, 97, 98, 101, 1, 0, 102, 99, 102], 6, false, 0, 0, 3⟩
def kD : Dk := ⟨[2, 0, 101, 97, 98, 101, 1, 0, 102], 9, true, 0, 0, 3⟩
def kF : Dk := ⟨[2, 0, 101, 97, 98, 101, 1, 0, 102], 9, false, 0, 0, 3⟩
def kG : Dk := ⟨[2, 0, 101, 97, 98, 101], 6, false, 0, 0, 4⟩
theorem enc_k1 : encR (101, [97, 98]) = [2, 0, 101, 97, 98, 101] := by decide
theorem enc_k2 : encR (102, [99]) = [1, 0, 102, 99, 102] := by decide
theorem kA_is : (Dk.of []).append [2, 0, 101, 97, 98, 101] = (0, kA) := rfl
theorem kB_is : kA.sync = (0, kB) := rfl
theorem kC_is : kB.append [1, 0, 102, 99, 102] = (0, kC) := rfl
theorem kD_is : kC.cut 3 = kD := rfl
theorem kD_sync : kD.sync = (13, kD) := rfl
theorem scan_nil : scanR [] = [] := scanR_none rfl
theorem open_nil : (Dk.of []).opened = Dk.of [] := by
  unfold Dk.opened
  rw [show (Dk.of []).row = [] from rfl, scan_nil]
  rfl
theorem scan_k (t : List UInt8) (h : t.length < 4) : scanR ([2, 0, 101, 97, 98, 101] ++ t) = [(101, [97, 98])] := by
  have h1 := scanR_flat (rs := [(101, [97, 98])]) (by intro r hr; obtain rfl := List.mem_singleton.1 hr; exact ⟨by decide, by decide⟩) t
  have e : flatE [((101 : UInt8), ([97, 98] : List UInt8))] = [2, 0, 101, 97, 98, 101] := by unfold flatE; rw [List.flatMap_cons, enc_k1]; rfl
  rw [e, scanR_none (firstR_short h)] at h1
  exact h1
theorem scan_kF : scanR kF.row = [(101, [97, 98])] := scan_k [1, 0, 102] (by decide)
theorem scan_kx : scanR [2, 0, 101, 97, 98, 101, 1, 0] = [(101, [97, 98])] := scan_k [1, 0] (by decide)
theorem grown_is {w w' : World} (h : w.grownBy w' none) : Below w.heap.size w w' := ⟨h.os, h.tape, h.output, h.size, fun k hk => h.block k hk (by simp)⟩
theorem flat_k : flatE [((101 : UInt8), ([97, 98] : List UInt8))] = [2, 0, 101, 97, 98, 101] := by unfold flatE; rw [List.flatMap_cons, enc_k1]; rfl
theorem open_kF : kF.opened = kG := by
  unfold Dk.opened
  rw [scan_kF, flat_k]
  rfl
theorem bysC_new (w : World) (l : List UInt8) (cs : Array Value) (n c : Nat) (fz : Nat × Nat) (hc : cs = (l.map byV).toArray) (hn : n = l.length) (hnc : n ≤ c) : BysC (w.alloc (.cells cs 5 fz)) (some ⟨w.heap.size, 0, none⟩) n c l :=
  ⟨bys_new w l cs n c fz hc hn, hnc, fun e => by cases e⟩
set_option maxHeartbeats 8000000 in
theorem known_any (w : World) : Calls Try.prog 8 #[] w fun e w' => e = .returned (.bool true) ∧ Below w.heap.size w w' := by
  have H1 := Lib.hid (new_any w)
  have kc := fun (w : World) (C : Array Value) (n c : Nat) => Lib.run_convert_bytes_const (P := Try.prog) w 22 5 C n c Try.underlying22 Try.underlying5
  go_enter Try.func8, Try.ntmps8
  go_wp2_with fail
  refine H1.out.mono ?_
  rintro e w1 ⟨b, v1, rfl, D1, g1⟩
  have B1 := grownBy_below g1 (Nat.le_refl _) (fun k e => by cases e)
  have H2 := Lib.hid (open_any w.heap.size b v1 (Dk.of []) w1 D1 rfl rfl (by decide))
  have C1 := Lib.hid D1
  have E1 := Lib.hid B1
  clear D1 g1 B1 H1
  go_wp2_with fail
  refine H2.out.mono ?_
  rintro e w2 ⟨lb, v2, vs, xs, rfl, hxs, hys, L2, _, T2⟩
  rw [show (Dk.of []).row = [] from rfl, scan_nil] at hxs L2
  rw [open_nil] at L2
  obtain rfl : xs = [] := List.map_eq_nil_iff.1 hxs
  obtain ⟨sa, sc, rfl⟩ := hys.2.1
  have B2 := E1.out.trans (C1.out.below T2)
  have L2' : LgAt w.heap.size w2 lb b v2 (Dk.of []) 0 0 := L2
  clear hxs hys T2 L2 C1 E1 H2
  have H3 : Hid (Calls Try.prog 21 #[.pointer (some ⟨lb, 0, none⟩), .agg #[.int .u8 101, (.slice (some ⟨w2.heap.size, 0, none⟩) 2 2)]] (w2.alloc (.cells #[.int .u8 97, .int .u8 98] 5 (2, 3))) (AddPost w.heap.size lb b v2 0 0 6 (0, kA) (w2.alloc (.cells #[.int .u8 97, .int .u8 98] 5 (2, 3))))) := by
    have h := add_any w.heap.size lb b v2 (Dk.of []) 0 101 (some ⟨w2.heap.size, 0, none⟩) 2 [97, 98] (w2.alloc (.cells #[.int .u8 97, .int .u8 98] 5 (2, 3))) (L2'.new _) (bysC_new w2 [97, 98] _ 2 2 (2, 3) rfl rfl (Nat.le_refl _)) ⟨by decide, by decide⟩ rfl (by decide) (by decide) (by decide) (by decide)
    rw [enc_k1, kA_is] at h
    exact h
  have K3 := Lib.hid (L2'.new (.cells #[.int .u8 97, .int .u8 98] 5 (2, 3)))
  have E3 := Lib.hid (B2.alloc B2.size (.cells #[.int .u8 97, .int .u8 98] 5 (2, 3)))
  clear L2' B2
  go_wp2_with fail
  refine H3.out.mono ?_
  rintro e w3 ⟨v3, rfl, L3, T3⟩
  have L3' : LgAt w.heap.size w3 lb b v3 kA 6 1 := L3
  have B3 := E3.out.trans (T3.below K3.out)
  have H4 : Hid (Calls Try.prog 22 #[.pointer (some ⟨lb, 0, none⟩)] w3 (OpPost w.heap.size b v3 (0, kB) w3)) := by
    have h := lsync_any w.heap.size lb b v3 kA 6 1 w3 L3' (by decide)
    rw [kB_is] at h
    exact h
  have C3 := Lib.hid L3'
  have F3 := Lib.hid B3
  clear L3 L3' T3 B3 K3 E3 H3
  go_wp2_with fail
  refine H4.out.mono ?_
  rintro e w4 ⟨rfl, v4, D4, T4⟩
  have L4 := C3.out.op T4 D4
  have B4 := F3.out.trans (C3.out.dk.below T4)
  clear D4 T4 C3 F3 H4
  have H5 : Hid (Calls Try.prog 21 #[.pointer (some ⟨lb, 0, none⟩), .agg #[.int .u8 102, (.slice (some ⟨w4.heap.size, 0, none⟩) 1 1)]] (w4.alloc (.cells #[.int .u8 99] 5 (1, 2))) (AddPost w.heap.size lb b v4 6 1 11 (0, kC) (w4.alloc (.cells #[.int .u8 99] 5 (1, 2))))) := by
    have h := add_any w.heap.size lb b v4 kB 1 102 (some ⟨w4.heap.size, 0, none⟩) 1 [99] (w4.alloc (.cells #[.int .u8 99] 5 (1, 2))) (L4.new _) (bysC_new w4 [99] _ 1 1 (1, 2) rfl rfl (Nat.le_refl _)) ⟨by decide, by decide⟩ rfl (by decide) (by decide) (by decide) (by decide)
    rw [enc_k2, kC_is] at h
    exact h
  have K5 := Lib.hid (L4.new (.cells #[.int .u8 99] 5 (1, 2)))
  have E5 := Lib.hid (B4.alloc B4.size (.cells #[.int .u8 99] 5 (1, 2)))
  clear L4 B4
  go_wp2_with fail
  refine H5.out.mono ?_
  rintro e w5 ⟨v5, rfl, L5, T5⟩
  have L5' : LgAt w.heap.size w5 lb b v5 kC 11 2 := L5
  have B5 := E5.out.trans (T5.below K5.out)
  have H6 : Hid (Calls Try.prog 14 #[.pointer (some ⟨lb, 0, none⟩)] w5 fun e w' => e = .returned (.int .i64 2) ∧ w5 = w') := llen_any w.heap.size lb b v5 kC 11 2 w5 L5'
  have H7 : Hid (Calls Try.prog 23 #[.pointer (some ⟨b, 0, none⟩), .int .i64 3] w5 fun e w' => e = .returned (.tuple #[]) ∧ ∃ v', DkAt w.heap.size w' b v' kD ∧ DTo w5 w' b v5 v' ∧ v'.ownBlock = v5.ownBlock) := cut_any w.heap.size b v5 kC 3 w5 L5'.dk
  have C5 := Lib.hid L5'
  have F5 := Lib.hid B5
  clear L5 L5' T5 B5 K5 E5 H5
  go_wp2_with fail
  refine H6.out.mono ?_
  rintro e w6 ⟨rfl, rfl⟩
  go_wp2_with fail
  refine H7.out.mono ?_
  rintro e w7 ⟨rfl, v7, D7, T7, _⟩
  have L7 := C5.out.op T7 D7
  have B7 := F5.out.trans (C5.out.dk.below T7)
  have H8 : Hid (Calls Try.prog 22 #[.pointer (some ⟨lb, 0, none⟩)] w7 (OpPost w.heap.size b v7 (13, kD) w7)) := by
    have h := lsync_any w.heap.size lb b v7 kD 11 2 w7 L7 (by decide)
    rw [kD_sync] at h
    exact h
  have C7 := Lib.hid L7
  have F7 := Lib.hid B7
  clear D7 T7 L7 B7 C5 F5 H6 H7
  go_wp2_with fail
  refine H8.out.mono ?_
  rintro e w8 ⟨rfl, v8, D8, T8⟩
  have B8 := F7.out.trans (C7.out.dk.below T8)
  have H9 : Hid (Calls Try.prog 24 #[.pointer (some ⟨b, 0, none⟩)] w8 fun e w' => e = .returned (.tuple #[]) ∧ DkAt w.heap.size w' b v8 kF ∧ DTo w8 w' b v8 v8) := on_any w.heap.size b v8 kD w8 D8
  have C8 := Lib.hid D8
  have F8 := Lib.hid B8
  clear D8 T8 B8 C7 F7 H8
  go_wp2_with fail
  refine H9.out.mono ?_
  rintro e w9 ⟨rfl, D9, T9⟩
  have B9 := F8.out.trans (C8.out.below T9)
  have H10 := Lib.hid (open_any w.heap.size b v8 kF w9 D9 rfl rfl (by decide))
  have C9 := Lib.hid D9
  have F9 := Lib.hid B9
  clear D9 T9 B9 C8 F8 H9
  go_wp2_with fail
  refine H10.out.mono ?_
  rintro e w10 ⟨lm, v10, vr, ys, rfl, hxs, hys, L10, _, T10⟩
  rw [scan_kF] at hxs
  rw [open_kF] at L10
  have B10 := F9.out.trans (C9.out.below T10)
  have hrt := Rcs.of_ys hys
  rw [hxs] at hrt
  obtain ⟨ra, rc, rfl⟩ := hys.2.1
  have hl1 : ys.length = 1 := hrt.len
  rw [hl1] at hrt ⊢
  have D10 := L10.dk
  have HRT := Lib.hid hrt
  have HD10 := Lib.hid D10
  have F10 := Lib.hid B10
  clear hys hrt L10 T10 B10 hxs hl1 D10 C9 F9 H10
  have H11 : Hid (Calls Try.prog 16 #[.agg #[.int .u8 101, .slice (some ⟨w10.heap.size, 0, none⟩) 2 2]] (w10.alloc (.cells #[.int .u8 97, .int .u8 98] 5 (2, 3))) (EncPost (101, [97, 98]) (w10.alloc (.cells #[.int .u8 97, .int .u8 98] 5 (2, 3))))) := encode_any 101 (some ⟨w10.heap.size, 0, none⟩) 2 [97, 98] (w10.alloc (.cells #[.int .u8 97, .int .u8 98] 5 (2, 3))) (bysC_new w10 [97, 98] _ 2 2 (2, 3) rfl rfl (Nat.le_refl _)) (by decide)
  go_wp2_with fail
  refine H11.out.mono ?_
  intro e w11 hp
  have hp2 := encPost_ok (r := (101, [97, 98])) ⟨by decide, by decide⟩ hp
  rw [enc_k1] at hp2
  obtain ⟨hb11, ea, ec, rfl, hd11⟩ := hp2
  obtain ⟨g, rfl⟩ : ∃ g, ea = some ⟨g, 0, none⟩ := by
    obtain ⟨g, cg, e⟩ := own_some hd11.1 (by decide)
    injection e with e1
    exact ⟨g, e1⟩
  have hz10 : w10.heap.size + 1 ≤ w11.heap.size := by have := hb11.size; rwa [World.size_alloc] at this
  have hg11 : w10.grownBy w11 none := grownBy_trans (World.grownBy_alloc w10 _ none) (grown_below hb11) (fun g e => by cases e)
  obtain ⟨v12, w12, hrun, own12, g12, old12⟩ := append_old w10.heap.size g 6 ec (Lib.byteCells [2, 0, 101, 97, 98, 101]) ⟨w11.heap.size, 0, none⟩ 2 2 [.int .u8 1, .int .u8 0] (w11.alloc (.cells #[.int .u8 1, .int .u8 0] 5)) ((row_at _ _ hd11.1 (by rw [World.size_alloc]; omega)).alloc _) rfl (cells2_new w11 _ _ _) (by intro u hu; simp at hu; rcases hu with rfl | rfl <;> rfl) (by omega) (by rw [World.size_alloc]; omega)
  have own12' : w12.ownsRow w10.heap.size 5 1 v12 8 (Lib.byteCells [2, 0, 101, 97, 98, 101, 1, 0]) := own12
  obtain ⟨g', cg', rfl⟩ := own_some own12' (by omega)
  have hgg : w10.heap.size ≤ g := by
    have := (World.ownsRow.lt hd11.1 g rfl).1
    rw [World.size_alloc] at this
    omega
  have hg12 : w10.grownBy w12 none := by
    have q := grownBy_trans hg11 (World.grownBy_alloc w11 (.cells #[.int .u8 1, .int .u8 0] 5) none) (fun g e => by cases e)
    exact ⟨g12.os.trans q.os, g12.tape.trans q.tape, g12.output.trans q.output, Nat.le_trans q.size g12.size, fun k hk _ => (g12.block k (Nat.lt_of_lt_of_le hk q.size) (fun e => by cases e; omega)).trans (q.block k hk (by simp))⟩
  have hd12 : Dat w10.heap.size w12 (.slice (some ⟨g', 0, none⟩) 8 cg') [2, 0, 101, 97, 98, 101, 1, 0] := ⟨own12', _, _, rfl⟩
  have hc12 := BysC.of_dat hd12
  have H13 : Hid (Calls Try.prog 9 #[.slice (some ⟨g', 0, none⟩) 8 cg'] w12 fun e w' => ∃ a c, e = .returned (.tuple #[.slice a 1 c, .int .i64 6]) ∧ Below w12.heap.size w12 w') := (scan_any (some ⟨g', 0, none⟩) 8 cg' [2, 0, 101, 97, 98, 101, 1, 0] w12 hc12.bys hc12.le (by decide)).mono (by
    rintro e w' ⟨v, zs, rfl, h1, h2, h3⟩
    rw [scan_kx] at h1 ⊢
    obtain ⟨a, c, rfl⟩ := h2.2.1
    have hl : zs.length = 1 := by rw [← List.length_map (f := Yl.r), h1]; rfl
    rw [hl]
    exact ⟨a, c, rfl, h3⟩)
  have HO12 := Lib.hid old12
  have HG12 := Lib.hid hg12
  have HRUN := Lib.hid hrun
  clear hp hb11 hd11 hg11 own12 own12' old12 g12 hg12 hd12 hc12 hrun H11
  go_wp2_with (at_builtin; refine Lib.wpList_append_run _ rfl _ _ _ _ rfl _ _ rfl rfl _ _ (HRUN.out _) ?_)
  refine H13.out.mono ?_
  rintro e w13 ⟨xa, xc, rfl, hb13⟩
  have hg13 : w10.grownBy w13 none := grownBy_trans HG12.out (grown_below hb13) (fun g e => by cases e)
  have hrt := HRT.out.below (grown_is hg13)
  obtain ⟨rg, ro, rfl, q1, da, dc, q2, q3⟩ : ∃ rg ro, ra = some ⟨rg, ro, none⟩ ∧ w13.cell? ⟨rg, ro, none⟩ = some (.int .u8 101) ∧ ∃ da dc, w13.cell? ⟨rg, ro + 1, none⟩ = some (.slice da 2 dc) ∧ (convert 22 9 (.slice da 2 dc)).run Try.prog w13 = .ok (.string ⟨#[97, 98]⟩) w13 := by
    rcases hrt with ⟨_, e⟩ | ⟨g, off, cap, e, hg, hc⟩
    · cases e
    · injection e with e1
      obtain ⟨a, c, h1, h2, h3⟩ := hc 0 _ rfl
      simp only [Nat.zero_mul, Nat.add_zero] at h1 h2
      exact ⟨g, off, e1, h1, a, c, h2, text_of_bys h3.bys⟩
  have hcB : (convert 22 9 (.slice (some ⟨g, 0, none⟩) 6 ec)).run Try.prog w13 = .ok (.string ⟨#[2, 0, 101, 97, 98, 101]⟩) w13 := text_of_row (base := w10.heap.size) (l := [2, 0, 101, 97, 98, 101]) (HO12.out.kept (grown_below hb13) (.inr (by simp [Value.ownBlock])))
  have HLn : Hid (Calls Try.prog 26 #[.pointer (some ⟨b, 0, none⟩)] w13 fun e w' => e = .returned (.int .i64 6) ∧ w13 = w') := len_any w.heap.size b v10 kG w13 (HD10.out.grow hg13)
  have HB13 : Hid (Below w.heap.size w w13) := F10.out.trans ((grown_is hg13).mono F10.out.size)
  clear hb13 hg13 hrt HRUN H13 HG12 HO12 HRT HD10 F10 kc
  go_wp2_with fail
  refine HLn.out.mono ?_
  rintro e w14 ⟨rfl, rfl⟩
  go_wp2
  go_ret
  exact ⟨rfl, HB13.out⟩
end Go.Proofs.Yteddlpcnefogpaa
