/- regex's sets: not. -/
import Derived.Test.YthdoniefjmphaaaGreatDoorOr
import Derived.Test.YthdoniefjmphaaaGreatDoorPars
import Derived.Test.YthdoniefjmphaaaGreatDoorNet
import Derived.Test.YthdoniefjmphaaaGreatDoorOps
namespace Go.Proofs.YthdoniefjmphaaaGreatDoor
open Go Go.Proofs Go.RowKit Go.Shelf
set_option maxRecDepth 100000
attribute [local go_sem] cell_set
theorem wordN_not (m : Nat) (hm : m < 2 ^ 256) (i : Nat) (hi : i < 4) : wordN (Rx.fullM - m) i = 18446744073709551615 - wordN m i := by
 have e : 18446744073709551615 - wordN m i = 2 ^ 64 - (wordN m i + 1) := by
  have := wordN_lt m i;have h2 : (2 : Nat) ^ 64 = 18446744073709551616 := by decide
  omega
 have e2 : Rx.fullM - m = 2 ^ 256 - (m + 1) := by unfold Rx.fullM; omega
 rw [e, e2];apply Nat.eq_of_testBit_eq;intro j;rw [Nat.testBit_two_pow_sub_succ (wordN_lt m i)];by_cases hj : j < 64
 ·
  rw [wordN_bit _ _ _ hj, Nat.testBit_two_pow_sub_succ hm, wordN_bit _ _ _ hj, decide_eq_true hj, decide_eq_true (by omega)]
 ·
  rw [decide_eq_false hj, Bool.false_and];exact Nat.testBit_lt_two_pow (Nat.lt_of_lt_of_le (show _ < 2 ^ 64 from wordN_lt _ _) (Nat.pow_le_pow_right (by decide) (by omega)))
theorem word_not (m : Nat) (hm : m < 2 ^ 256) (i : Nat) (hi : i < 4) : bits BinOp.xor IntKind.u64 (if IntKind.u64.signed = true then -1 else IntKind.u64.max) (word m i) = word (Rx.fullM - m) i := by
 have h := wordN_lt m i;have e : (if IntKind.u64.signed = true then -1 else IntKind.u64.max) = ((18446744073709551615 : Nat) : Int) := rfl;rw [e];unfold word;rw [wordN_not m hm i hi, bits_xor_u64_nat _ _ (by decide) h];congr 1
 have e2 : 18446744073709551615 - wordN m i = 2 ^ 64 - (wordN m i + 1) := by
  have h2 : (2 : Nat) ^ 64 = 18446744073709551616 := by decide
  omega
 rw [e2, show 18446744073709551615 = 2 ^ 64 - 1 from by decide];apply Nat.eq_of_testBit_eq;intro j;rw [Nat.testBit_two_pow_sub_succ h, Nat.testBit_xor, Nat.testBit_two_pow_sub_one];by_cases hj : j < 64
 ·
  rw [decide_eq_true hj, Bool.true_xor, Bool.true_and]
 ·
  rw [decide_eq_false hj, Bool.false_xor, Bool.false_and];exact Nat.testBit_lt_two_pow (Nat.lt_of_lt_of_le (show _ < 2 ^ 64 from h) (Nat.pow_le_pow_right (by decide) (by omega)))
set_option maxHeartbeats 1000000 in
theorem bnot_any (m : Nat) (hm : m < 2 ^ 256) (w : World) :
  Calls Tryz.prog 127 #[setV m] w fun e w' => e = .returned (setV (Rx.fullM - m)) ∧ Below w.heap.size w w' := by
 have BO := Lib.hid (word_not m hm);generalize Rx.fullM - m = m' at *;clear hm;unfold setV;go_enter Tryz.func127, Tryz.ntmps127
 go_wp2
 obtain ⟨W0, hW0⟩ : ∃ W0, ((w.alloc (.cells #[.int .u64 (word m 0), .int .u64 (word m 1), .int .u64 (word m 2), .int .u64 (word m 3)] 103)).alloc (.cells #[.int .u64 0, .int .u64 0, .int .u64 0, .int .u64 0] 103)) = W0 := ⟨_, rfl⟩;have hB : Below w.heap.size w W0 := by rw [← hW0]; go_grown
 have DA : At W0 w.heap.size [mixW m m' 0 0, mixW m m' 0 1, mixW m m' 0 2, mixW m m' 0 3] := by
  rw [← hW0]; exact (At.new _ _ _).alloc _
 have DC : At W0 (w.heap.size + 1) [.int .u64 0, .int .u64 0, .int .u64 0, .int .u64 0] := by
  rw [← hW0]; have h := At.new (w.alloc (.cells #[.int .u64 (word m 0), .int .u64 (word m 1), .int .u64 (word m 2), .int .u64 (word m 3)] 103)) #[.int .u64 0, .int .u64 0, .int .u64 0, .int .u64 0] 103;simpa using h
 rw [hW0];clear hW0;go_loopw [3, 4] (fun _ i wr => ∃ k : Nat, k ≤ 4 ∧ i = .int .i64 (k : Int) ∧ At wr w.heap.size [mixW m m' k 0, mixW m m' k 1, mixW m m' k 2, mixW m m' k 3] ∧ At wr (w.heap.size + 1) [.int .u64 0, .int .u64 0, .int .u64 0, .int .u64 0] ∧ Below w.heap.size w wr) (fun _ i _ => 4 - (RowKit.intOf i).toNat)
 case atStart => exact ⟨0, by omega, rfl, DA, DC, hB⟩
 case round =>
  obtain ⟨k, hk, rfl, EA, EC, hB⟩ := hrel;have hc : k = 0 ∨ k = 1 ∨ k = 2 ∨ k = 3 ∨ k = 4 := by omega
  clear DA DC;rcases hc with rfl | rfl | rfl | rfl | rfl
  ·
   have xa := EA.cell 0 _ rfl;have ya := EA.free 0 _ rfl;simp only [mixW, Nat.lt_irrefl, if_false] at xa;have FA : At (wr.setCell ⟨w.heap.size, 0, none⟩ (.int .u64 (word m' 0))) w.heap.size [mixW m m' 1 0, mixW m m' 1 1, mixW m m' 1 2, mixW m m' 1 3] := EA.set 0 _;have FC := EC.far (b' := w.heap.size) (j := 0) (by omega) (.int .u64 (word m' 0));have FD := hB.setCell (p := ⟨w.heap.size, 0, none⟩) (Nat.le_refl _) (.int .u64 (word m' 0));have BK := BO.out 0 (by omega);have sz : w.heap.size < wr.heap.size := EA.lt;have FA := Lib.hid FA;have FC := Lib.hid FC;have FD := Lib.hid FD;clear EA EC hB;go_wp2
   go_roundw
   case rel => exact ⟨1, by omega, by go_num, FA.out, FC.out, FD.out⟩
   case measure => simp [RowKit.intOf]
  ·
   have xa := EA.cell 1 _ rfl;have ya := EA.free 1 _ rfl;simp only [mixW, Nat.lt_irrefl, if_false] at xa;have FA : At (wr.setCell ⟨w.heap.size, 1, none⟩ (.int .u64 (word m' 1))) w.heap.size [mixW m m' 2 0, mixW m m' 2 1, mixW m m' 2 2, mixW m m' 2 3] := EA.set 1 _;have FC := EC.far (b' := w.heap.size) (j := 1) (by omega) (.int .u64 (word m' 1));have FD := hB.setCell (p := ⟨w.heap.size, 1, none⟩) (Nat.le_refl _) (.int .u64 (word m' 1));have BK := BO.out 1 (by omega);have sz : w.heap.size < wr.heap.size := EA.lt;have FA := Lib.hid FA;have FC := Lib.hid FC;have FD := Lib.hid FD;clear EA EC hB;go_wp2
   go_roundw
   case rel => exact ⟨2, by omega, by go_num, FA.out, FC.out, FD.out⟩
   case measure => simp [RowKit.intOf]
  ·
   have xa := EA.cell 2 _ rfl;have ya := EA.free 2 _ rfl;simp only [mixW, Nat.lt_irrefl, if_false] at xa;have FA : At (wr.setCell ⟨w.heap.size, 2, none⟩ (.int .u64 (word m' 2))) w.heap.size [mixW m m' 3 0, mixW m m' 3 1, mixW m m' 3 2, mixW m m' 3 3] := EA.set 2 _;have FC := EC.far (b' := w.heap.size) (j := 2) (by omega) (.int .u64 (word m' 2));have FD := hB.setCell (p := ⟨w.heap.size, 2, none⟩) (Nat.le_refl _) (.int .u64 (word m' 2));have BK := BO.out 2 (by omega);have sz : w.heap.size < wr.heap.size := EA.lt;have FA := Lib.hid FA;have FC := Lib.hid FC;have FD := Lib.hid FD;clear EA EC hB;go_wp2
   go_roundw
   case rel => exact ⟨3, by omega, by go_num, FA.out, FC.out, FD.out⟩
   case measure => simp [RowKit.intOf]
  ·
   have xa := EA.cell 3 _ rfl;have ya := EA.free 3 _ rfl;simp only [mixW, Nat.lt_irrefl, if_false] at xa;have FA : At (wr.setCell ⟨w.heap.size, 3, none⟩ (.int .u64 (word m' 3))) w.heap.size [mixW m m' 4 0, mixW m m' 4 1, mixW m m' 4 2, mixW m m' 4 3] := EA.set 3 _;have FC := EC.far (b' := w.heap.size) (j := 3) (by omega) (.int .u64 (word m' 3));have FD := hB.setCell (p := ⟨w.heap.size, 3, none⟩) (Nat.le_refl _) (.int .u64 (word m' 3));have BK := BO.out 3 (by omega);have sz : w.heap.size < wr.heap.size := EA.lt;have FA := Lib.hid FA;have FC := Lib.hid FC;have FD := Lib.hid FD;clear EA EC hB;go_wp2
   go_roundw
   case rel => exact ⟨4, by omega, by go_num, FA.out, FC.out, FD.out⟩
   case measure => simp [RowKit.intOf]
  ·
   have x0 := EA.cell 0 _ rfl;have x1 := EA.cell 1 _ rfl;have x2 := EA.cell 2 _ rfl;have x3 := EA.cell 3 _ rfl;have y0 := EC.cell 0 _ rfl;have y1 := EC.cell 1 _ rfl;have y2 := EC.cell 2 _ rfl;have y3 := EC.cell 3 _ rfl;have z0 := EC.free 0 _ rfl;have z1 := EC.free 1 _ rfl;have z2 := EC.free 2 _ rfl;have z3 := EC.free 3 _ rfl;have nc := EC.lt;simp only [mixW] at x0 x1 x2 x3;simp only [show (0 : Nat) < 4 from by decide, show (1 : Nat) < 4 from by decide, show (2 : Nat) < 4 from by decide, show (3 : Nat) < 4 from by decide, if_true] at x0 x1 x2 x3;clear EA EC;go_wp2
   refine bodyPost_ret (by simp [results, Tryz.results127, go_sem, y0, y1, y2, y3, z0, z1, z2, z3, nc]; try rfl) rfl ?_;exact ⟨rfl, by go_grown⟩
end Go.Proofs.YthdoniefjmphaaaGreatDoor
/- regex: net.join. -/
namespace Go.Proofs.YthdoniefjmphaaaGreatDoor
open Go Go.Proofs Go.RowKit Go.Shelf
set_option maxRecDepth 100000
attribute [local go_sem] Oper.semAt_some
theorem At.low {B : Nat} {w wx : World} {b : Nat} {l : List Value} (h : At w b l) (hb : Below B w wx) (hB : b < B) : At wx b l :=
 ⟨Nat.lt_of_lt_of_le h.lt hb.size, fun j v hv => (hb.cell (p := ⟨b, j, none⟩) hB).trans (h.cell j v hv), fun j v hv => (hb.frozen (p := ⟨b, j, none⟩) hB).trans (h.free j v hv)⟩
theorem KB.refl (W : World) : KB W W := ⟨Nat.le_refl _, rfl⟩
theorem kb_put {w : World} (ht : 3 < w.heap.size) : ∀ (W : World) (l : Nat) (o o' : Obj), w.heap.size ≤ l → W.heap[l]? = some o → o.isCells = false → o.isWalk = false → KB W (W.putObj l o') :=
 fun W l o o' hl _ _ _ => ⟨by simp, World.putObj_heap_other (by omega)⟩
structure JI (base : Nat) (w W0 : World) (v : Value) (n : Rx.Nt) (next : Nat) (pre : List Nat) (W : World) : Prop where
 sz : W0.heap.size ≤ W.heap.size
 net : NetR base W v (pre.foldl (Rx.joinS next) n)
 bn : At W w.heap.size [v]
 bx : At W (w.heap.size + 1 + 1) (wordsV next)
 gr : w.grownBy W v.ownBlock
theorem JI.low {base : Nat} {w W0 : World} {v : Value} {n : Rx.Nt} {next : Nat} {pre : List Nat} {W W' : World} (hz : w.heap.size + 1 + 1 < W0.heap.size) (hv : ∀ g, v.ownBlock = some g → g < w.heap.size) (ht : 3 < w.heap.size) (h : JI base w W0 v n next pre W) (hb : Below W0.heap.size W W') : JI base w W0 v n next pre W' :=
 ⟨Nat.le_trans h.sz hb.size, h.net.same hb.size (fun g e => hb.block g (by have := hv g e; omega)) (hb.block _ (by omega)), h.bn.low hb (by omega), h.bx.low hb (by omega),
  ⟨hb.os.trans h.gr.os, hb.tape.trans h.gr.tape, hb.output.trans h.gr.output, Nat.le_trans h.gr.size hb.size, fun k hk hr => (hb.block k (by omega)).trans (h.gr.block k hk hr)⟩⟩
theorem fold_joinS_length (next : Nat) : ∀ (l : List Nat) (n : Rx.Nt), (l.foldl (Rx.joinS next) n).length = n.length := by
 intro l;induction l with
 | nil => intro n; rfl
 | cons i t ih => intro n; rw [List.foldl_cons, ih]; unfold Rx.joinS; simp
theorem net_joined {base g m cap x next : Nat} {w : World} {cur : Rx.Nt} {e : Nat × Nat} (h : NetR base w (.slice (some ⟨g, 0, none⟩) m cap) cur) (hm : cur.length = m) (he : cur[x]? = some e) :
  NetR base ((((w.setCell ⟨g, x * 8 + 4, none⟩ (.int .u64 (word (e.2 ||| next) 0))).setCell ⟨g, x * 8 + 4 + 1, none⟩ (.int .u64 (word (e.2 ||| next) 1))).setCell ⟨g, x * 8 + 4 + 2, none⟩ (.int .u64 (word (e.2 ||| next) 2))).setCell ⟨g, x * 8 + 4 + 3, none⟩ (.int .u64 (word (e.2 ||| next) 3))) (.slice (some ⟨g, 0, none⟩) m cap) (Rx.joinS next cur x) ∧
  w.grownBy ((((w.setCell ⟨g, x * 8 + 4, none⟩ (.int .u64 (word (e.2 ||| next) 0))).setCell ⟨g, x * 8 + 4 + 1, none⟩ (.int .u64 (word (e.2 ||| next) 1))).setCell ⟨g, x * 8 + 4 + 2, none⟩ (.int .u64 (word (e.2 ||| next) 2))).setCell ⟨g, x * 8 + 4 + 3, none⟩ (.int .u64 (word (e.2 ||| next) 3))) (some g) := by
 have ho := h.own;rw [hm] at ho;obtain ⟨o1, g1⟩ := ho.stored (x * 8 + 4) (.int .u64 (word (e.2 ||| next) 0));obtain ⟨o2, g2⟩ := o1.stored (x * 8 + 4 + 1) (.int .u64 (word (e.2 ||| next) 1));obtain ⟨o3, g3⟩ := o2.stored (x * 8 + 4 + 2) (.int .u64 (word (e.2 ||| next) 2));obtain ⟨o4, g4⟩ := o3.stored (x * 8 + 4 + 3) (.int .u64 (word (e.2 ||| next) 3));have hgr := grown_trans g1 (grown_trans g2 (grown_trans g3 g4));have hl : (Rx.joinS next cur x).length = cur.length := by unfold Rx.joinS; simp
 refine ⟨⟨?_, h.tab.of_block hgr.size (hgr.block _ h.tab.lt (fun e2 => h.nt (by rw [Value.ownBlock]; exact e2.symm))), h.nt, by rw [hl]; exact h.len⟩, hgr⟩;rw [cellsN_join cur next x e he, hl, hm];exact o4
set_option maxHeartbeats 4000000 in
theorem join_any (base : Nat) (v : Value) (n : Rx.Nt) (last next : Nat) (hl : ∀ i, i < 256 → last.testBit i = true → i < n.length) (hn : 0 < n.length) (w : World) (hN : NetR base w v n) :
  Calls Tryz.prog 95 #[v, setV last, setV next] w fun e w' => (∃ r, e = .returned r) ∧ NetR base w' v (Rx.joinN last next n) ∧ w.grownBy w' v.ownBlock := by
 obtain ⟨g, cap, rfl, hbg, hgs⟩ := hN.form hn;have hvl : ∀ x, (Value.ownBlock (.slice (some ⟨g, 0, none⟩) n.length cap)) = some x → x < w.heap.size := fun x e => (hN.lt x e).2
 have hnl := hN.len;refine (callsIn_wide (n := 9)).1 ?_;refine callsIn_of_wp_marks Tryz.func95 rfl trivial ?_ rfl;simp only [Tryz.ntmps95, List.size_toArray, List.length_cons, List.length_nil, Nat.reduceAdd, Nat.reduceSub, Array.replicate_succ, Array.replicate_zero, List.push_toArray, List.append_toArray, List.nil_append, List.cons_append];have HN := Lib.hid hN;have HVL := Lib.hid hvl;have HL := Lib.hid hl;clear hN hvl hl;unfold setV
 gi_wp2
 refine ⟨trivial, (all_in last _).mono ?_⟩;rintro e w1 ⟨rfl, rfl⟩
 gi_wp2
 obtain ⟨W0, hW0⟩ : ∃ W0, ((((w.alloc (.cells #[.slice (some ⟨g, 0, none⟩) n.length cap] 108)).alloc (.cells #[.int .u64 (word last 0), .int .u64 (word last 1), .int .u64 (word last 2), .int .u64 (word last 3)] 104)).alloc (.cells #[.int .u64 (word next 0), .int .u64 (word next 1), .int .u64 (word next 2), .int .u64 (word next 3)] 104)).alloc (.cells #[.int .u64 (word last 0), .int .u64 (word last 1), .int .u64 (word last 2), .int .u64 (word last 3)] 104)) = W0 := ⟨_, rfl⟩;have hlp : Below w.heap.size w W0 := by rw [← hW0]; go_grown
 have hsz : W0.heap.size = w.heap.size + 4 := by rw [← hW0]; simp
 have bn0 : At W0 w.heap.size [.slice (some ⟨g, 0, none⟩) n.length cap] := by rw [← hW0]; exact (((At.new _ _ _).alloc _).alloc _).alloc _
 have bx0 : At W0 (w.heap.size + 1 + 1) (wordsV next) := by
  rw [← hW0];have h := (At.new ((w.alloc (.cells #[.slice (some ⟨g, 0, none⟩) n.length cap] 108)).alloc (.cells #[.int .u64 (word last 0), .int .u64 (word last 1), .int .u64 (word last 2), .int .u64 (word last 3)] 104)) #[.int .u64 (word next 0), .int .u64 (word next 1), .int .u64 (word next 2), .int .u64 (word next 3)] 104).alloc (.cells #[.int .u64 (word last 0), .int .u64 (word last 1), .int .u64 (word last 2), .int .u64 (word last 3)] 104);simpa [wordsV] using h
 have bi0 : At W0 (w.heap.size + 1 + 1 + 1) (wordsV last) := by
  rw [← hW0];have h := At.new (((w.alloc (.cells #[.slice (some ⟨g, 0, none⟩) n.length cap] 108)).alloc (.cells #[.int .u64 (word last 0), .int .u64 (word last 1), .int .u64 (word last 2), .int .u64 (word last 3)] 104)).alloc (.cells #[.int .u64 (word next 0), .int .u64 (word next 1), .int .u64 (word next 2), .int .u64 (word next 3)] 104)) #[.int .u64 (word last 0), .int .u64 (word last 1), .int .u64 (word last 2), .int .u64 (word last 3)] 104;simpa [wordsV] using h
 have hT0 := HN.out.tab.below hlp;have htl := HN.out.tab.lt;have hI0 : JI base w W0 (.slice (some ⟨g, 0, none⟩) n.length cap) n next [] W0 := ⟨Nat.le_refl _, HN.out.below hlp, bn0, bx0, below_grown hlp⟩;rw [hW0];clear hW0;refine wpIn_rangeFunc_ownH (F := Fence.wide) (n := 9) rfl (by omega) (gf := 121) (lb := #[.pointer (some ⟨w.heap.size + 1 + 1 + 1, 0, none⟩)]) rfl trivial (enters_of Tryz.func121 (by kernel_rfl) rfl)
  (encs := fun x : El last => #[.int .u8 (x.1 : Int)]) (Kp := KB) (all_stops last (w.heap.size + 1 + 1 + 1) W0 bi0 hT0) (fun h k => KB.trans h k) (kb_put (by omega)) (Below.refl _ _) (fun _ => rfl)
  (fun pre W => JI base w W0 (.slice (some ⟨g, 0, none⟩) n.length cap) n next (pre.map Subtype.val) W)
  (fun _ _ _ => False)
  (own_of_below (fun s X Y h hb => h.low (by omega) HVL.out (by omega) hb) (fun s X h => h.sz))
  (fun c s X Y row h _ _ => h) hI0
  (fun x a' W => a' = { tmps := #[.slice (some ⟨g, 0, none⟩) n.length cap, .agg #[.int .u64 (word last 0), .int .u64 (word last 1), .int .u64 (word last 2), .int .u64 (word last 3)], .agg #[.int .u64 (word next 0), .int .u64 (word next 1), .int .u64 (word next 2), .int .u64 (word next 3)], .pointer (some ⟨w.heap.size, 0, none⟩), .pointer (some ⟨w.heap.size + 1, 0, none⟩), .pointer (some ⟨w.heap.size + 1 + 1, 0, none⟩), .int .u8 (x.1 : Int), .agg #[.int .u64 (word last 0), .int .u64 (word last 1), .int .u64 (word last 2), .int .u64 (word last 3)], .func (.func 121) #[] #[.pointer (some ⟨w.heap.size + 1 + 1 + 1, 0, none⟩)], .int .u8 (x.1 : Int), undef, undef, undef, undef, undef, undef, undef, undef, undef, undef, undef], defers := [] })
  (fun x a' s X Y row h _ _ => h) ?assign ?body ?done ?stop
 case assign =>
  rintro l pre x W K hI hK
  gi_wp2
  exact hK _ _ (KeepsFrom.refl _ _) (KB.refl _) hI rfl
 case body =>
  rintro l pre x a' W hl hrec hI rfl hlen;obtain ⟨x, hx1, hx2⟩ := x;have hxn : x < n.length := HL.out x hx1 hx2;have hcl := fold_joinS_length next (pre.map Subtype.val) n;have hm1 : (pre ++ [(⟨x, hx1, hx2⟩ : El last)]).map Subtype.val = pre.map Subtype.val ++ [x] := by rw [List.map_append]; rfl
  have hfs : (pre.map Subtype.val ++ [x]).foldl (Rx.joinS next) n = Rx.joinS next ((pre.map Subtype.val).foldl (Rx.joinS next) n) x := by rw [List.foldl_append]; rfl
  obtain ⟨isz, inet, ibn, ibx, igr⟩ := hI;generalize (pre.map Subtype.val).foldl (Rx.joinS next) n = cur at *;obtain ⟨e, he⟩ : ∃ e, cur[x]? = some e := ⟨_, List.getElem?_eq_getElem (by omega)⟩;have hgc := fun j (hj : j < 8) => (inet.own.cellAt' (j := x * 8 + j) (by omega)).trans (cellsN_get cur x j hj e he)
  have d0 := hgc 4 (by omega);have d1 := hgc 5 (by omega);have d2 := hgc 6 (by omega);have d3 := hgc 7 (by omega);simp only [nodeV, wordsV, List.cons_append, List.nil_append, List.getElem?_cons_succ, List.getElem?_cons_zero] at d0 d1 d2 d3;have cn := ibn.cell 0 _ rfl;have x0 := ibx.cell 0 _ rfl;have x1 := ibx.cell 1 _ rfl;have x2 := ibx.cell 2 _ rfl;have x3 := ibx.cell 3 _ rfl;have hb0 : (0 : Int) ≤ (x : Int) := by omega
  have hb1 : (x : Int) < (n.length : Int) := by omega
  have HI := Lib.hid inet;have HG := Lib.hid igr;have HF := Lib.hid hfs;have HM := Lib.hid hm1;have HE := Lib.hid he;have HC := Lib.hid hcl;clear hgc inet igr hfs hm1 he hcl
  gi_wp2
  refine region_anyM (S := fun u => Below W.heap.size W u) 11 (by kernel_rfl) (fun hS => ?_) ((Below.refl _ _).drew);refine' anyM_take (i := 0) (oi := ?oi0) (v := ?v0) [0, 9, 10, 11] (by kernel_rfl) ?hi0 (by kernel_rfl) (by kernel_rfl) (by kernel_rfl) (by kernel_rfl) (fun _ _ _ h => h) ?hy0 ?hab0 hS ?rest0
  case hi0 =>
   simp only [List.getElem?_toArray, List.getElem?_cons_zero];exact rfl
  case hy0 =>
   refine Or.inl ⟨by rfl, ?_⟩;intro u hSw;have k0 := below_cell cn hSw rfl;clear hSw;go_simp
   (try with_reducible rfl)
  case hab0 => exact fun _ => rfl
  (try simp only [Act.put, qd, qe, qf])
  refine' anyM_take (i := 1) (oi := ?oi1) (v := ?v1) [1, 9, 10, 11] (by kernel_rfl) ?hi1 (by kernel_rfl) (by kernel_rfl) (by kernel_rfl) (by kernel_rfl) (fun _ _ _ h => h) ?hy1 ?hab1 hS ?rest1
  case hi1 =>
   simp only [qa, qb, qc];exact rfl
  case hy1 =>
   refine Or.inl ⟨by rfl, ?_⟩;intro u hSw;clear hSw;go_simp
   (try with_reducible rfl)
  case hab1 => exact fun _ => rfl
  (try simp only [Act.put, qd, qe, qf])
  refine' anyM_take (i := 2) (oi := ?oi2) (v := ?v2) [2, 4, 5, 6, 8, 11] (by kernel_rfl) ?hi2 (by kernel_rfl) (by kernel_rfl) (by kernel_rfl) (by kernel_rfl) (fun _ _ _ h => h) ?hy2 ?hab2 hS ?rest2
  case hi2 =>
   simp only [qa, qb, qc];exact rfl
  case hy2 =>
   refine Or.inl ⟨by rfl, ?_⟩;intro u hSw;have k0 := below_cell cn hSw rfl;clear hSw;go_simp
   (try with_reducible rfl)
  case hab2 => exact fun _ => rfl
  (try simp only [Act.put, qd, qe, qf])
  refine' anyM_take (i := 3) (oi := ?oi3) (v := ?v3) [3, 4, 5, 6, 8, 11] (by kernel_rfl) ?hi3 (by kernel_rfl) (by kernel_rfl) (by kernel_rfl) (by kernel_rfl) (fun _ _ _ h => h) ?hy3 ?hab3 hS ?rest3
  case hi3 =>
   simp only [qa, qb, qc];exact rfl
  case hy3 =>
   refine Or.inl ⟨by rfl, ?_⟩;intro u hSw;clear hSw;go_simp
   (try with_reducible rfl)
  case hab3 => exact fun _ => rfl
  (try simp only [Act.put, qd, qe, qf])
  refine' anyM_take (i := 4) (oi := ?oi4) (v := ?v4) [4, 5, 6, 8, 11] (by kernel_rfl) ?hi4 (by kernel_rfl) (by kernel_rfl) (by kernel_rfl) (by kernel_rfl) (fun _ _ _ h => h) ?hy4 ?hab4 hS ?rest4
  case hi4 =>
   simp only [qa, qb, qc];exact rfl
  case hy4 =>
   refine Or.inl ⟨by rfl, ?_⟩;intro u hSw;clear hSw;go_simp
   (try with_reducible rfl)
  case hab4 => exact fun _ => rfl
  (try simp only [Act.put, qd, qe, qf])
  refine' anyM_take (i := 5) (oi := ?oi5) (v := ?v5) [5, 6, 8, 11] (by kernel_rfl) ?hi5 (by kernel_rfl) (by kernel_rfl) (by kernel_rfl) (by kernel_rfl) (fun _ _ _ h => h) ?hy5 ?hab5 hS ?rest5
  case hi5 =>
   simp only [qa, qb, qc];exact rfl
  case hy5 =>
   refine Or.inl ⟨by rfl, ?_⟩;intro u hSw;clear hSw;go_simp
   (try with_reducible rfl)
  case hab5 => exact fun _ => rfl
  (try simp only [Act.put, qd, qe, qf])
  refine' anyM_take (i := 6) (oi := ?oi6) (v := ?v6) [6, 8, 11] (by kernel_rfl) ?hi6 (by kernel_rfl) (by kernel_rfl) (by kernel_rfl) (by kernel_rfl) (fun _ _ _ h => h) ?hy6 ?hab6 hS ?rest6
  case hi6 =>
   simp only [qa, qb, qc];exact rfl
  case hy6 =>
   refine Or.inl ⟨by rfl, ?_⟩;intro u hSw;have k0 := below_cell d0 hSw rfl; have k1 := below_cell d1 hSw rfl; have k2 := below_cell d2 hSw rfl; have k3 := below_cell d3 hSw rfl;clear hSw;go_simp
   (try with_reducible rfl)
  case hab6 => exact fun _ => rfl
  (try simp only [Act.put, qd, qe, qf])
  refine' anyM_take (i := 7) (oi := ?oi7) (v := ?v7) [7, 8, 11] (by kernel_rfl) ?hi7 (by kernel_rfl) (by kernel_rfl) (by kernel_rfl) (by kernel_rfl) (fun _ _ _ h => h) ?hy7 ?hab7 hS ?rest7
  case hi7 =>
   simp only [qa, qb, qc];exact rfl
  case hy7 =>
   refine Or.inl ⟨by rfl, ?_⟩;intro u hSw;have k0 := below_cell x0 hSw rfl; have k1 := below_cell x1 hSw rfl; have k2 := below_cell x2 hSw rfl; have k3 := below_cell x3 hSw rfl;clear hSw;go_simp
   (try with_reducible rfl)
  case hab7 => exact fun _ => rfl
  (try simp only [Act.put, qd, qe, qf])
  refine' anyM_only (i := 8) (o := ?oo8) (by kernel_rfl) (by decide) ?ho8 ?hw8 (fun K hK => ?st8)
  case ho8 =>
   simp only [qa, qb, qc];exact rfl
  case hw8 => rfl
  go_simp
  refine ⟨trivial, ?_⟩
  gi_at_call 96
  refine (CallsIn.inRound l (callsIn_wide.2 (sor_any e.2 next _))).mono ?_;rintro e1 w1 ⟨rfl, hb1⟩;unfold setV;have hS := below_then hS hb1;clear hb1;go_simp
  refine hK _ _ hS ?_;clear hK K
  (try simp only [Act.put, qd, qe, qf])
  refine' anyM_take (i := 9) (oi := ?oi9) (v := ?v9) [9, 10, 11] (by kernel_rfl) ?hi9 (by kernel_rfl) (by kernel_rfl) (by kernel_rfl) (by kernel_rfl) (fun _ _ _ h => h) ?hy9 ?hab9 hS ?rest9
  case hi9 =>
   simp only [qa, qb, qc];exact rfl
  case hy9 =>
   refine Or.inl ⟨by rfl, ?_⟩;intro u hSw;clear hSw;go_simp
   (try with_reducible rfl)
  case hab9 => exact fun _ => rfl
  (try simp only [Act.put, qd, qe, qf])
  refine' anyM_take (i := 10) (oi := ?oi10) (v := ?v10) [10, 11] (by kernel_rfl) ?hi10 (by kernel_rfl) (by kernel_rfl) (by kernel_rfl) (by kernel_rfl) (fun _ _ _ h => h) ?hy10 ?hab10 hS ?rest10
  case hi10 =>
   simp only [qa, qb, qc];exact rfl
  case hy10 =>
   refine Or.inl ⟨by rfl, ?_⟩;intro u hSw;clear hSw;go_simp
   (try with_reducible rfl)
  case hab10 => exact fun _ => rfl
  (try simp only [Act.put, qd, qe, qf])
  have inet := HI.out.below hS;have hgc := fun j (hj : j < 8) => (inet.own.cellAt' (j := x * 8 + j) (by rw [HC.out]; omega)).trans (cellsN_get cur x j hj e HE.out)
  have k0 := hgc 4 (by omega);have k1 := hgc 5 (by omega);have k2 := hgc 6 (by omega);have k3 := hgc 7 (by omega);simp only [nodeV, wordsV, List.cons_append, List.nil_append, List.getElem?_cons_succ, List.getElem?_cons_zero] at k0 k1 k2 k3;have z0 := inet.own.frozenAt' (x * 8 + 4);have z1 := inet.own.frozenAt' (x * 8 + 5);have z2 := inet.own.frozenAt' (x * 8 + 6);have z3 := inet.own.frozenAt' (x * 8 + 7);have gw := (inet.lt g rfl).2;clear hgc inet;refine' anyM_last (o := ?oo11) (by kernel_rfl) ?ho11 ?hw11 (fun K hK => ?st11)
  case ho11 =>
   simp only [qa, qb, qc];exact rfl
  case hw11 => rfl
  go_simp
  refine hK _ _ ?_;clear hK K;refine anyIn_done (by kernel_rfl) ?_ _
  gi_wp2
  have hnj := net_joined (next := next) (HI.out.below hS) HC.out HE.out;obtain ⟨hn1, hg1⟩ := hnj;have hgr := grown_trans (below_grown (row := some g) hS) hg1;refine ⟨⟨hgr.size, fun k o hk h0 ho => (hgr.block k (Array.getElem?_eq_some_iff.1 h0).1 (fun e2 => by cases e2; omega)).trans h0⟩, ⟨hgr.size, hgr.block _ (by omega) (fun e2 => HI.out.nt (by rw [Value.ownBlock]; exact e2.symm))⟩, ⟨Nat.le_trans isz hgr.size, ?_, grown_at hgr ibn (fun e2 => by cases e2; omega), grown_at hgr ibx (fun e2 => by cases e2; omega), grown_trans HG.out hgr⟩⟩;rw [HM.out, HF.out];exact hn1

 case done =>
  rintro D ys V hD hys hI hK;have HI := Lib.hid hI;have HY := Lib.hid hys;clear hI hys
  gi_wp2
  refine ⟨by simp, .inl ⟨_, _, rfl, run_takeDeferred hK, ?_⟩⟩;refine ⟨_, results_none rfl _ _ _, ⟨_, rfl⟩, ?_, ?_⟩
  ·
   have e := Rx.join_fold last next n (by omega);rw [HY.out] at HI;rw [← e];exact HI.out.net.same (by simp) (fun x hx => World.putObj_heap_other (by have := HVL.out x hx; omega)) (World.putObj_heap_other (by omega))
  ·
   exact ⟨HI.out.gr.os, HI.out.gr.tape, HI.out.gr.output, by simpa using HI.out.gr.size, fun k hk hr => (World.putObj_heap_other (by omega)).trans (HI.out.gr.block k hk hr)⟩
 case stop =>
  rintro D c pre V hD hs hI hK;exact hI.elim
end Go.Proofs.YthdoniefjmphaaaGreatDoor
/- regex's reader in memory: what it holds, what a call of it keeps. -/
namespace Go.Proofs.YthdoniefjmphaaaGreatDoor
open Go Go.Proofs Go.RowKit Go.Shelf
set_option maxRecDepth 100000
def pceV (x : Rx.Pce) : Value := .agg #[.int .u64 (word x.first 0), .int .u64 (word x.first 1), .int .u64 (word x.first 2), .int .u64 (word x.first 3), .int .u64 (word x.last 0), .int .u64 (word x.last 1), .int .u64 (word x.last 2), .int .u64 (word x.last 3), .bool x.none]
abbrev zeroP : Rx.Pce := ⟨0, 0, false⟩
theorem word_zero (i : Nat) : word 0 i = 0 := by unfold word wordN; simp
theorem pceV_zero : pceV zeroP = .agg #[.int .u64 0, .int .u64 0, .int .u64 0, .int .u64 0, .int .u64 0, .int .u64 0, .int .u64 0, .int .u64 0, .bool false] := by
 unfold pceV; simp only [word_zero]
theorem setV_zero : setV 0 = .agg #[.int .u64 0, .int .u64 0, .int .u64 0, .int .u64 0] := by
 unfold setV; simp only [word_zero]
abbrev rowV (g m cap : Nat) : Value := .slice (some ⟨g, 0, none⟩) m cap
theorem grown_set {w W : World} {row : Option Nat} (h : w.grownBy W row) {p : Addr} (hp : w.heap.size ≤ p.block) (u : Value) : w.grownBy (W.setCell p u) row :=
 ⟨h.os, h.tape, h.output, by simpa using h.size, fun k hk hr => (Below.heap_setCell _ _ _ _ (by omega)).trans (h.block k hk hr)⟩
theorem grown_alloc {w W : World} {row : Option Nat} (h : w.grownBy W row) (o : Obj) : w.grownBy (W.alloc o) row := grown_trans h (World.grownBy_alloc W o row)
theorem NetR.setCell {base g m cap b j : Nat} {w : World} {n : Rx.Nt} (h : NetR base w (rowV g m cap) n) (hb : g ≠ b) (h1 : 3 ≠ b) (u : Value) : NetR base (w.setCell ⟨b, j, none⟩ u) (rowV g m cap) n :=
 h.same (by simp) (fun x e => by cases e; exact Below.heap_setCell _ _ _ _ hb) (Below.heap_setCell _ _ _ _ h1)
theorem NetR.drew {base : Nat} {w : World} {v : Value} {n : Rx.Nt} (h : NetR base w v n) : NetR base w.drew v n := h.below (Below.refl _ _).drew
theorem NetR.grown {base g m cap b : Nat} {w w' : World} {n n' : Rx.Nt} (h : NetR base w (rowV g m cap) n) (hg : w.grownBy w' (some b)) (hb : g ≠ b) (h1 : 3 ≠ b) : NetR base w' (rowV g m cap) n :=
 h.same hg.size (fun x e => by cases e; exact hg.block _ (h.lt g rfl).2 (fun e2 => hb (by cases e2; rfl))) (hg.block _ h.tab.lt (fun e2 => h1 (by cases e2; rfl)))
theorem sor_w (a b : Nat) (w : World) :
  Calls Tryz.prog 96 #[.agg #[.int .u64 (word a 0), .int .u64 (word a 1), .int .u64 (word a 2), .int .u64 (word a 3)], .agg #[.int .u64 (word b 0), .int .u64 (word b 1), .int .u64 (word b 2), .int .u64 (word b 3)]] w fun e w' => e = .returned (.agg #[.int .u64 (word (a ||| b) 0), .int .u64 (word (a ||| b) 1), .int .u64 (word (a ||| b) 2), .int .u64 (word (a ||| b) 3)]) ∧ Below w.heap.size w w' := sor_any a b w
structure Rd (base b g cap : Nat) (s : ByteArray) (l : List UInt8) (k : Nat) (n : Rx.Nt) (w : World) : Prop where
 txt : s.data.toList = l
 ll : l.length ≤ 64
 kl : k ≤ l.length
 cells : At w b [.string s, .int .i64 (k : Int), rowV g n.length cap]
 net : NetR base w (rowV g n.length cap) n
 pos : 0 < n.length
 bg : b ≠ g
 b1 : b ≠ 3
structure Kp (b g : Nat) (w : World) (g' : Nat) (w' : World) : Prop where
 os : w'.os = w.os
 tape : w'.tape = w.tape
 output : w'.output = w.output
 size : w.heap.size ≤ w'.heap.size
 block : ∀ k, k < w.heap.size → k ≠ b → k ≠ g → w'.heap[k]? = w.heap[k]?
 row : g' = g ∨ w.heap.size ≤ g'
theorem Kp.refl (b g : Nat) (w : World) : Kp b g w g w := ⟨rfl, rfl, rfl, Nat.le_refl _, fun _ _ _ _ => rfl, .inl rfl⟩
theorem Kp.trans {b g g1 g2 : Nat} {w w1 w2 : World} (h : Kp b g w g1 w1) (k : Kp b g1 w1 g2 w2) : Kp b g w g2 w2 :=
 ⟨k.os.trans h.os, k.tape.trans h.tape, k.output.trans h.output, Nat.le_trans h.size k.size,
  fun i hi h1 h2 => (k.block i (Nat.lt_of_lt_of_le hi h.size) h1 (fun e => by rcases h.row with r | r <;> omega)).trans (h.block i hi h1 h2),
  by have := h.size; rcases h.row with r | r <;> rcases k.row with q | q <;> first | (left; omega) | (right; omega)⟩
theorem Kp.below {b g g1 : Nat} {w w1 w2 : World} (h : Kp b g w g1 w1) (k : Below w1.heap.size w1 w2) : Kp b g w g1 w2 :=
 h.trans ⟨k.os, k.tape, k.output, k.size, fun i hi _ _ => k.block i hi, .inl rfl⟩
theorem Kp.grown {b g g1 : Nat} {w w1 w2 : World} (h : Kp b g w g1 w1) (k : w1.grownBy w2 (some g1)) : Kp b g w g1 w2 :=
 h.trans ⟨k.os, k.tape, k.output, k.size, fun i hi _ h2 => k.block i hi (fun e => h2 (by cases e; rfl)), .inl rfl⟩
theorem Kp.alloc {b g g1 : Nat} {w w1 : World} (h : Kp b g w g1 w1) (o : Obj) : Kp b g w g1 (w1.alloc o) := h.below ((Below.refl _ _).alloc (Nat.le_refl _) o)
theorem Kp.drew {b g g1 : Nat} {w w1 : World} (h : Kp b g w g1 w1) : Kp b g w g1 w1.drew := h.below (Below.refl _ _).drew
theorem Kp.setCell {b g g1 : Nat} {w w1 : World} (h : Kp b g w g1 w1) {p : Addr} (hp : w.heap.size ≤ p.block ∨ p.block = b) (u : Value) : Kp b g w g1 (w1.setCell p u) :=
 ⟨h.os, h.tape, h.output, by simpa using h.size, fun i hi h1 h2 => (Below.heap_setCell _ _ _ _ (by rcases hp with q | q <;> omega)).trans (h.block i hi h1 h2), h.row⟩
theorem At.kp {b g g1 c : Nat} {w w1 : World} {l : List Value} (h : At w c l) (k : Kp b g w g1 w1) (hb : c ≠ b) (hg : c ≠ g) : At w1 c l := by
 have hk := k.block c h.lt hb hg;exact ⟨Nat.lt_of_lt_of_le h.lt k.size, fun j v hj => (World.cell?_of_block (a := ⟨c, j, none⟩) hk).trans (h.cell j v hj), fun j v hj => (World.frozen?_of_block (a := ⟨c, j, none⟩) hk).trans (h.free j v hj)⟩
section
variable {base b g cap k : Nat} {s : ByteArray} {l : List UInt8} {n : Rx.Nt} {w : World}
theorem Rd.below {w' : World} (h : Rd base b g cap s l k n w) (hb : Below w.heap.size w w') : Rd base b g cap s l k n w' :=
 ⟨h.txt, h.ll, h.kl, h.cells.below hb, h.net.below hb, h.pos, h.bg, h.b1⟩
theorem Rd.alloc (h : Rd base b g cap s l k n w) (o : Obj) : Rd base b g cap s l k n (w.alloc o) := h.below ((Below.refl _ _).alloc (Nat.le_refl _) o)
theorem Rd.drew (h : Rd base b g cap s l k n w) : Rd base b g cap s l k n w.drew := h.below (Below.refl _ _).drew
theorem Rd.far (h : Rd base b g cap s l k n w) {c : Nat} (j : Nat) (hb : c ≠ b) (hg : c ≠ g) (h1 : c ≠ 3) (u : Value) : Rd base b g cap s l k n (w.setCell ⟨c, j, none⟩ u) :=
 ⟨h.txt, h.ll, h.kl, h.cells.far hb u, h.net.setCell (fun e => hg e.symm) (fun e => h1 e.symm) u, h.pos, h.bg, h.b1⟩
theorem Rd.move (h : Rd base b g cap s l k n w) {k' : Nat} (hk : k' ≤ l.length) : Rd base b g cap s l k' n (w.setCell ⟨b, 1, none⟩ (.int .i64 (k' : Int))) :=
 ⟨h.txt, h.ll, hk, h.cells.set 1 _, h.net.setCell (fun e => h.bg e.symm) (fun e => h.b1 e.symm) _, h.pos, h.bg, h.b1⟩
theorem Rd.lt (h : Rd base b g cap s l k n w) : b < w.heap.size ∧ g < w.heap.size ∧ 3 < w.heap.size := ⟨h.cells.lt, (h.net.lt g rfl).2, h.net.tab.lt⟩
theorem Rd.rows {w' : World} {n' : Rx.Nt} (h : Rd base b g cap s l k n w) (hg : w.grownBy w' (some g)) (hl : n'.length = n.length) (hn : NetR base w' (rowV g n.length cap) n') : Rd base b g cap s l k n' w' :=
 ⟨h.txt, h.ll, h.kl, by rw [hl]; exact grown_at hg h.cells (fun e => h.bg (by cases e; rfl)), by rw [hl]; exact hn, by rw [hl]; exact h.pos, h.bg, h.b1⟩
end
theorem kp_append {b g g1 : Nat} {w w1 : World} (h : w.grownBy w1 (some g)) (hor : some g = some g1 ∨ g1 = w.heap.size) : Kp b g w g1 w1 :=
 ⟨h.os, h.tape, h.output, h.size, fun i hi _ h2 => h.block i hi (fun e => h2 (Option.some.inj e)), by rcases hor with e | e; exact .inl (Option.some.inj e).symm; exact .inr (by omega)⟩
theorem Rd.grow {base b g cap g1 cap1 k : Nat} {s : ByteArray} {l : List UInt8} {n : Rx.Nt} {w w1 : World} {e : Nat × Nat} (R : Rd base b g cap s l k n w) (hl : n.length ≤ 90)
  (hown : w1.ownsRow base 106 8 (rowV g1 (n.length + 1) cap1) (n.length + 1) (cellsN n ++ nodeV e)) (hg : w.grownBy w1 (some g)) (hor : some g = some g1 ∨ g1 = w.heap.size) :
  Rd base b g1 cap1 s l k (n ++ [e]) (w1.setCell ⟨b, 2, none⟩ (rowV g1 (n.length + 1) cap1)) ∧ At w1 b [.string s, .int .i64 (k : Int), rowV g n.length cap] ∧ b ≠ g1 := by
 have hlt := R.lt;have hbg1 : b ≠ g1 := by have := R.bg; rcases hor with e1 | e1; rw [← Option.some.inj e1]; exact this; omega
 have hb1 := R.b1;have ht1 : g1 ≠ 3 := by
  rcases hor with e1 | e1
  ·
   intro e2; exact R.net.nt (by rw [Value.ownBlock, Option.some.inj e1, e2])
  ·
   omega
 have hne : (n ++ [e]).length = n.length + 1 := by simp
 have hc : cellsN (n ++ [e]) = cellsN n ++ nodeV e := by rw [cellsN_append]; simp [cellsN]
 have hA : At w1 b [.string s, .int .i64 (k : Int), rowV g n.length cap] := grown_at hg R.cells (fun e2 => R.bg (Option.some.inj e2).symm);have hN : NetR base w1 (rowV g1 (n.length + 1) cap1) (n ++ [e]) :=
  ⟨by rw [hne, hc]; exact hown, R.net.tab.of_block hg.size (hg.block _ hlt.2.2 (fun e2 => R.net.nt (by rw [Value.ownBlock]; exact e2.symm))), fun e2 => ht1 (Option.some.inj e2), by rw [hne]; omega⟩
 refine ⟨⟨R.txt, R.ll, R.kl, ?_, ?_, by rw [hne]; omega, hbg1, hb1⟩, hA, hbg1⟩
 ·
  rw [hne]; exact hA.set 2 _
 ·
  rw [hne]; exact hN.setCell (fun e2 => hbg1 e2.symm) (fun e2 => hb1 e2.symm) _
def GP (base b g : Nat) (w : World) (s : ByteArray) (l : List UInt8) (v : Value) (j : Nat) (n' : Rx.Nt) (e : Ending) (w' : World) : Prop :=
 ∃ g' cap', e = .returned v ∧ Rd base b g' cap' s l j n' w' ∧ Kp b g w g' w'
def PP (base b g : Nat) (w : World) (s : ByteArray) (l : List UInt8) (n : Rx.Nt) (r : Rx.Res Rx.Pt) (e : Ending) (w' : World) : Prop := match r with
 | .ok p j => ∃ g' cap', e = .returned (.tuple #[pceV (Rx.build p n).1, .int .i64 0]) ∧ Rd base b g' cap' s l j (Rx.build p n).2 w' ∧ Kp b g w g' w'
 | .bad er j => ∃ g' cap' n' x, e = .returned (.tuple #[pceV x, .int .i64 (er : Int)]) ∧ n.length ≤ n'.length ∧ Rd base b g' cap' s l j n' w' ∧ Kp b g w g' w'
theorem grown_sets4 {w W : World} {row : Option Nat} (h : w.grownBy W row) (a : Nat) (hp : w.heap.size ≤ a) (v0 v1 v2 v3 : Value) : w.grownBy ((((W.setCell ⟨a, 0, none⟩ v0).setCell ⟨a, 1, none⟩ v1).setCell ⟨a, 2, none⟩ v2).setCell ⟨a, 3, none⟩ v3) row := (grown_set (grown_set (grown_set (grown_set h (p := ⟨a, 0, none⟩) hp v0) (p := ⟨a, 1, none⟩) hp v1) (p := ⟨a, 2, none⟩) hp v2) (p := ⟨a, 3, none⟩) hp v3)
theorem NetR.sets4 {base g m cap : Nat} {w : World} {n : Rx.Nt} (h : NetR base w (rowV g m cap) n) (a : Nat) (h1 : g ≠ a) (h2 : 3 ≠ a) (v0 v1 v2 v3 : Value) : NetR base ((((w.setCell ⟨a, 0, none⟩ v0).setCell ⟨a, 1, none⟩ v1).setCell ⟨a, 2, none⟩ v2).setCell ⟨a, 3, none⟩ v3) (rowV g m cap) n := ((((h.setCell (b := a) (j := 0) h1 h2 v0).setCell (b := a) (j := 1) h1 h2 v1).setCell (b := a) (j := 2) h1 h2 v2).setCell (b := a) (j := 3) h1 h2 v3)
theorem Kp.sets4 {b g g1 : Nat} {w w1 : World} (h : Kp b g w g1 w1) (a : Nat) (hp : w.heap.size ≤ a ∨ a = b) (v0 v1 v2 v3 : Value) : Kp b g w g1 ((((w1.setCell ⟨a, 0, none⟩ v0).setCell ⟨a, 1, none⟩ v1).setCell ⟨a, 2, none⟩ v2).setCell ⟨a, 3, none⟩ v3) := ((((h.setCell (p := ⟨a, 0, none⟩) hp v0).setCell (p := ⟨a, 1, none⟩) hp v1).setCell (p := ⟨a, 2, none⟩) hp v2).setCell (p := ⟨a, 3, none⟩) hp v3)
theorem Rd.fars4 {base b g cap k : Nat} {s : ByteArray} {l : List UInt8} {n : Rx.Nt} {w : World} (h : Rd base b g cap s l k n w) (a : Nat) (h1 : a ≠ b) (h2 : a ≠ g) (h3 : a ≠ 3) (v0 v1 v2 v3 : Value) : Rd base b g cap s l k n ((((w.setCell ⟨a, 0, none⟩ v0).setCell ⟨a, 1, none⟩ v1).setCell ⟨a, 2, none⟩ v2).setCell ⟨a, 3, none⟩ v3) := ((((h.far (c := a) 0 h1 h2 h3 v0).far (c := a) 1 h1 h2 h3 v1).far (c := a) 2 h1 h2 h3 v2).far (c := a) 3 h1 h2 h3 v3)
theorem grown_sets9 {w W : World} {row : Option Nat} (h : w.grownBy W row) (a : Nat) (hp : w.heap.size ≤ a) (v0 v1 v2 v3 v4 v5 v6 v7 v8 : Value) : w.grownBy (((((((((W.setCell ⟨a, 0, none⟩ v0).setCell ⟨a, 1, none⟩ v1).setCell ⟨a, 2, none⟩ v2).setCell ⟨a, 3, none⟩ v3).setCell ⟨a, 4, none⟩ v4).setCell ⟨a, 5, none⟩ v5).setCell ⟨a, 6, none⟩ v6).setCell ⟨a, 7, none⟩ v7).setCell ⟨a, 8, none⟩ v8) row := (grown_set (grown_set (grown_set (grown_set (grown_set (grown_set (grown_set (grown_set (grown_set h (p := ⟨a, 0, none⟩) hp v0) (p := ⟨a, 1, none⟩) hp v1) (p := ⟨a, 2, none⟩) hp v2) (p := ⟨a, 3, none⟩) hp v3) (p := ⟨a, 4, none⟩) hp v4) (p := ⟨a, 5, none⟩) hp v5) (p := ⟨a, 6, none⟩) hp v6) (p := ⟨a, 7, none⟩) hp v7) (p := ⟨a, 8, none⟩) hp v8)
theorem NetR.sets9 {base g m cap : Nat} {w : World} {n : Rx.Nt} (h : NetR base w (rowV g m cap) n) (a : Nat) (h1 : g ≠ a) (h2 : 3 ≠ a) (v0 v1 v2 v3 v4 v5 v6 v7 v8 : Value) : NetR base (((((((((w.setCell ⟨a, 0, none⟩ v0).setCell ⟨a, 1, none⟩ v1).setCell ⟨a, 2, none⟩ v2).setCell ⟨a, 3, none⟩ v3).setCell ⟨a, 4, none⟩ v4).setCell ⟨a, 5, none⟩ v5).setCell ⟨a, 6, none⟩ v6).setCell ⟨a, 7, none⟩ v7).setCell ⟨a, 8, none⟩ v8) (rowV g m cap) n := (((((((((h.setCell (b := a) (j := 0) h1 h2 v0).setCell (b := a) (j := 1) h1 h2 v1).setCell (b := a) (j := 2) h1 h2 v2).setCell (b := a) (j := 3) h1 h2 v3).setCell (b := a) (j := 4) h1 h2 v4).setCell (b := a) (j := 5) h1 h2 v5).setCell (b := a) (j := 6) h1 h2 v6).setCell (b := a) (j := 7) h1 h2 v7).setCell (b := a) (j := 8) h1 h2 v8)
theorem Kp.sets9 {b g g1 : Nat} {w w1 : World} (h : Kp b g w g1 w1) (a : Nat) (hp : w.heap.size ≤ a ∨ a = b) (v0 v1 v2 v3 v4 v5 v6 v7 v8 : Value) : Kp b g w g1 (((((((((w1.setCell ⟨a, 0, none⟩ v0).setCell ⟨a, 1, none⟩ v1).setCell ⟨a, 2, none⟩ v2).setCell ⟨a, 3, none⟩ v3).setCell ⟨a, 4, none⟩ v4).setCell ⟨a, 5, none⟩ v5).setCell ⟨a, 6, none⟩ v6).setCell ⟨a, 7, none⟩ v7).setCell ⟨a, 8, none⟩ v8) := (((((((((h.setCell (p := ⟨a, 0, none⟩) hp v0).setCell (p := ⟨a, 1, none⟩) hp v1).setCell (p := ⟨a, 2, none⟩) hp v2).setCell (p := ⟨a, 3, none⟩) hp v3).setCell (p := ⟨a, 4, none⟩) hp v4).setCell (p := ⟨a, 5, none⟩) hp v5).setCell (p := ⟨a, 6, none⟩) hp v6).setCell (p := ⟨a, 7, none⟩) hp v7).setCell (p := ⟨a, 8, none⟩) hp v8)
theorem Rd.fars9 {base b g cap k : Nat} {s : ByteArray} {l : List UInt8} {n : Rx.Nt} {w : World} (h : Rd base b g cap s l k n w) (a : Nat) (h1 : a ≠ b) (h2 : a ≠ g) (h3 : a ≠ 3) (v0 v1 v2 v3 v4 v5 v6 v7 v8 : Value) : Rd base b g cap s l k n (((((((((w.setCell ⟨a, 0, none⟩ v0).setCell ⟨a, 1, none⟩ v1).setCell ⟨a, 2, none⟩ v2).setCell ⟨a, 3, none⟩ v3).setCell ⟨a, 4, none⟩ v4).setCell ⟨a, 5, none⟩ v5).setCell ⟨a, 6, none⟩ v6).setCell ⟨a, 7, none⟩ v7).setCell ⟨a, 8, none⟩ v8) := (((((((((h.far (c := a) 0 h1 h2 h3 v0).far (c := a) 1 h1 h2 h3 v1).far (c := a) 2 h1 h2 h3 v2).far (c := a) 3 h1 h2 h3 v3).far (c := a) 4 h1 h2 h3 v4).far (c := a) 5 h1 h2 h3 v5).far (c := a) 6 h1 h2 h3 v6).far (c := a) 7 h1 h2 h3 v7).far (c := a) 8 h1 h2 h3 v8)
theorem _root_.Go.RowKit.Below.sets4 {n : Nat} {w W : World} (h : Below n w W) (a : Nat) (hp : n ≤ a) (v0 v1 v2 v3 : Value) : Below n w ((((W.setCell ⟨a, 0, none⟩ v0).setCell ⟨a, 1, none⟩ v1).setCell ⟨a, 2, none⟩ v2).setCell ⟨a, 3, none⟩ v3) := ((((h.setCell (p := ⟨a, 0, none⟩) hp v0).setCell (p := ⟨a, 1, none⟩) hp v1).setCell (p := ⟨a, 2, none⟩) hp v2).setCell (p := ⟨a, 3, none⟩) hp v3)
theorem _root_.Go.RowKit.Below.sets9 {n : Nat} {w W : World} (h : Below n w W) (a : Nat) (hp : n ≤ a) (v0 v1 v2 v3 v4 v5 v6 v7 v8 : Value) : Below n w (((((((((W.setCell ⟨a, 0, none⟩ v0).setCell ⟨a, 1, none⟩ v1).setCell ⟨a, 2, none⟩ v2).setCell ⟨a, 3, none⟩ v3).setCell ⟨a, 4, none⟩ v4).setCell ⟨a, 5, none⟩ v5).setCell ⟨a, 6, none⟩ v6).setCell ⟨a, 7, none⟩ v7).setCell ⟨a, 8, none⟩ v8) := (((((((((h.setCell (p := ⟨a, 0, none⟩) hp v0).setCell (p := ⟨a, 1, none⟩) hp v1).setCell (p := ⟨a, 2, none⟩) hp v2).setCell (p := ⟨a, 3, none⟩) hp v3).setCell (p := ⟨a, 4, none⟩) hp v4).setCell (p := ⟨a, 5, none⟩) hp v5).setCell (p := ⟨a, 6, none⟩) hp v6).setCell (p := ⟨a, 7, none⟩) hp v7).setCell (p := ⟨a, 8, none⟩) hp v8)
theorem Rd.f {base b g cap k : Nat} {s : ByteArray} {l : List UInt8} {n : Rx.Nt} {w : World} (R : Rd base b g cap s l k n w) : w.cell? ⟨b, 0, none⟩ = some (.string s) ∧ w.cell? ⟨b, 1, none⟩ = some (.int .i64 (k : Int)) ∧ w.cell? ⟨b, 2, none⟩ = some (rowV g n.length cap) ∧ w.frozen? ⟨b, 1, none⟩ = false ∧ w.frozen? ⟨b, 2, none⟩ = false ∧ b < w.heap.size ∧ g < w.heap.size ∧ k ≤ l.length :=
 ⟨R.cells.cell 0 _ rfl, R.cells.cell 1 _ rfl, R.cells.cell 2 _ rfl, R.cells.free 1 _ rfl, R.cells.free 2 _ rfl, R.lt.1, R.lt.2.1, R.kl⟩
end Go.Proofs.YthdoniefjmphaaaGreatDoor
