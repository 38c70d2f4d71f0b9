/- regex: net.leaf. -/
import Derived.Test.YthdoniefjmphaaaGreatDoorFrm
import Derived.Deep.RegionHeld3
import Derived.OrdersHeld
import Derived.Deep.AppendLies
import Derived.OwnWalk
import Derived.Deep.DeepCutAuto
namespace Go.Proofs.YthdoniefjmphaaaGreatDoor
open Go Go.Proofs Go.RowKit Go.Shelf
set_option maxRecDepth 100000
attribute [local go_sem] cell_set
theorem info_node : (Tryz.prog.info? 106).map (fun i => (i.zero, i.size, i.bytes)) = some (some (.agg #[.int .u64 0, .int .u64 0, .int .u64 0, .int .u64 0, .int .u64 0, .int .u64 0, .int .u64 0, .int .u64 0]), 8, 64) := by kernel_rfl
theorem node_zero (m : Nat) : nodeV (m, 0) = [.int .u64 (word m 0), .int .u64 (word m 1), .int .u64 (word m 2), .int .u64 (word m 3), .int .u64 0, .int .u64 0, .int .u64 0, .int .u64 0] := by
 simp only [nodeV, wordsV, word_zero, List.cons_append, List.nil_append]
theorem bit_zero (x : Nat) : 0 ||| 2 ^ x = 2 ^ x := by simp
theorem swith_zero (x : Nat) (hx : x < 256) (w : World) :
  Calls Tryz.prog 74 #[.agg #[.int .u64 0, .int .u64 0, .int .u64 0, .int .u64 0], .int .u8 (x : Int)] w fun e w' => e = .returned (.agg #[.int .u64 (word (2 ^ x) 0), .int .u64 (word (2 ^ x) 1), .int .u64 (word (2 ^ x) 2), .int .u64 (word (2 ^ x) 3)]) ∧ Below w.heap.size w w' := by
 have h := swith_any 0 x hx w;rw [setV_zero, bit_zero] at h;exact h
set_option maxHeartbeats 4000000 in
theorem leaf_any (base b g cap k : Nat) (s : ByteArray) (l : List UInt8) (n : Rx.Nt) (hl : n.length ≤ 90) (m : Nat) (w : World) (R : Rd base b g cap s l k n w) :
  Calls Tryz.prog 126 #[.pointer (some ⟨b, 2, none⟩), setV m] w (GP base b g w s l (pceV ⟨2 ^ n.length, 2 ^ n.length, false⟩) k (n ++ [(m, 0)])) := by
 obtain ⟨i0, hi, hz0, hz1, hz2⟩ := info_parts info_node;have HI := Lib.hid hi;have HZ := Lib.hid hz0;have HZ1 := Lib.hid hz1;have HZ2 := Lib.hid hz2;clear hi hz0 hz1 hz2;obtain ⟨hbs, hgs, hts⟩ := R.lt;have hbt := R.b1;have hpos := R.pos;have hbb := (R.net.lt g rfl).1;have P := Kp.refl b g w;unfold setV;go_enter Tryz.func126, Tryz.ntmps126
 go_wp2
 have Dt := ((At.nwb (w.heap.size) (w) [.int .u64 (word (m) 0), .int .u64 (word (m) 1), .int .u64 (word (m) 2), .int .u64 (word (m) 3)] 103).alloc zC)
 have Dr := (At.nwz (w.heap.size + 1) ((w).alloc (.cells #[.int .u64 (word (m) 0), .int .u64 (word (m) 1), .int .u64 (word (m) 2), .int .u64 (word (m) 3)] 103)))
 have R := ((R.alloc (.cells #[.int .u64 (word (m) 0), .int .u64 (word (m) 1), .int .u64 (word (m) 2), .int .u64 (word (m) 3)] 103)).alloc zC);have P := ((P.alloc (.cells #[.int .u64 (word (m) 0), .int .u64 (word (m) 1), .int .u64 (word (m) 2), .int .u64 (word (m) 3)] 103)).alloc zC);generalize ((w).alloc (.cells #[.int .u64 (word (m) 0), .int .u64 (word (m) 1), .int .u64 (word (m) 2), .int .u64 (word (m) 3)] 103)).alloc zC = W0 at *;have Dt : At ((W0).drew) (w.heap.size) [.int .u64 (word (m) 0), .int .u64 (word (m) 1), .int .u64 (word (m) 2), .int .u64 (word (m) 3)] := Dt.drew;have Dr : At ((W0).drew) (w.heap.size + 1) zL := Dr.drew;have R := R.drew;have P := P.drew;refine wp_region_held_drew (S := fun u => At u (w.heap.size) [.int .u64 (word (m) 0), .int .u64 (word (m) 1), .int .u64 (word (m) 2), .int .u64 (word (m) 3)]) (by kernel_rfl) ?_ (fun hS => ?_)
 ·
  exact Dt
 generalize (W0).drew = v0 at *;refine tkH 0 hS ?_;refine tkH 1 hS ?_;refine tkH 2 hS ?_;refine tkC 4 hS (fun _ h => h.f4) ?_;refine tkH 5 hS ?_;refine wpAnyH_ready (rs := [3, 6]) (by kernel_rfl) (by simp) ?_;refine' AllReadyH.cons (o := ?oor6_0) ?hor6_0 (fun K hK => ?str6_0) (AllReadyH.cons (o := ?oor6_1) ?hor6_1 (fun K hK => ?str6_1) AllReadyH.nil)
 case hor6_0 =>
  simp only [qa, qb, qc];exact rfl
 case hor6_1 =>
  simp only [qa, qb, qc];exact rfl
 case str6_0 =>
  have ft := Dt.f4;have fr := Dr.f9;obtain ⟨aR0, aR1, aR2, zR1, zR2, nR, nG, kR⟩ := R.f;go_simp
  clear ft fr aR0 aR1 aR2 zR1 zR2 nR nG kR;refine hK.out _ _ ?_ (fun hS => ?_)
  · exact Dt
  clear hK K
  (try simp only [Act.put, qd, qe, qf])
  refine wpAnyH_ready (rs := [6]) (by kernel_rfl) (by simp) ?_;refine' AllReadyH.cons (o := ?oor7) ?hor7 (fun K hK => ?str7) AllReadyH.nil
  case hor7 =>
   simp only [qa, qb, qc];exact rfl
  have ft := Dt.f4;have fr := Dr.f9;obtain ⟨aR0, aR1, aR2, zR1, zR2, nR, nG, kR⟩ := R.f;go_simp
  refine hK.out _ _ ?_ (fun hS => ?_)
  ·
   clear ft fr aR0 aR1 aR2 zR1 zR2 nR nG kR;have ut1 := Dt.lt;have ur1 := Dr.lt;have De := At.nw (v0) [.int .u64 (word (m) 0), .int .u64 (word (m) 1), .int .u64 (word (m) 2), .int .u64 (word (m) 3), .int .u64 0, .int .u64 0, .int .u64 0, .int .u64 0] 106;obtain ⟨Dt, Dr, R, P⟩ := (fun o => And.intro (Dt.alloc o) (And.intro (Dr.alloc o) (And.intro (R.alloc o) (P.alloc o)))) (.cells #[.int .u64 (word (m) 0), .int .u64 (word (m) 1), .int .u64 (word (m) 2), .int .u64 (word (m) 3), .int .u64 0, .int .u64 0, .int .u64 0, .int .u64 0] 106);exact Dt
  clear ft fr aR0 aR1 aR2 zR1 zR2 nR nG kR;have ut2 := Dt.lt;have ur2 := Dr.lt;have De := At.nw (v0) [.int .u64 (word (m) 0), .int .u64 (word (m) 1), .int .u64 (word (m) 2), .int .u64 (word (m) 3), .int .u64 0, .int .u64 0, .int .u64 0, .int .u64 0] 106;obtain ⟨Dt, Dr, R, P⟩ := (fun o => And.intro (Dt.alloc o) (And.intro (Dr.alloc o) (And.intro (R.alloc o) (P.alloc o)))) (.cells #[.int .u64 (word (m) 0), .int .u64 (word (m) 1), .int .u64 (word (m) 2), .int .u64 (word (m) 3), .int .u64 0, .int .u64 0, .int .u64 0, .int .u64 0] 106);clear hK K
  (try simp only [Act.put, qd, qe, qf])
  refine wpAnyH_ready (rs := [7]) (by kernel_rfl) (by simp) ?_;refine' AllReadyH.cons (o := ?oor8) ?hor8 (fun K hK => ?str8) AllReadyH.nil
  case hor8 =>
   simp only [qa, qb, qc];exact rfl
  have hw := R.net.own;have hsz := (below_new (Below.refl _ v0) (.cells #[.int .u64 (word (m) 0), .int .u64 (word (m) 1), .int .u64 (word (m) 2), .int .u64 (word (m) 3), .int .u64 0, .int .u64 0, .int .u64 0, .int .u64 0] 106)).size;refine step_append_lies _ (by rfl) (.tmp 9) (.tmp 12) 108 (by rfl) base 106 i0 (.agg #[.int .u64 0, .int .u64 0, .int .u64 0, .int .u64 0, .int .u64 0, .int .u64 0, .int .u64 0, .int .u64 0]) 8 64 Tryz.underlying108 HI.out HZ.out HZ1.out HZ2.out (by rfl) (by decide) (rowV g n.length cap) n.length (cellsN n) (by rfl) R.net.own ⟨v0.heap.size, 0, none⟩ 1 1 (nodeV (m, 0)) (by rfl) (by rfl) (fun j u hj => by rw [Addr.add_lit, Nat.zero_add]; exact De.cell j u (by rw [← node_zero]; exact hj)) (fun u hu => by rw [node_zero] at hu; simp only [List.mem_cons, List.not_mem_nil, or_false] at hu; rcases hu with rfl | rfl | rfl | rfl | rfl | rfl | rfl | rfl <;> rfl) (by decide) (by unfold maxLen; omega) (by omega) (by have := R.lt; omega) _ rfl ?_;intro g1 cap1 w1 hown1 hgrow hor hlt
  replace hgrow : World.grownBy _ _ (some g) := hgrow
  replace hor : some g = some g1 ∨ g1 = _ := hor
  have hq0 : g1 ≠ w.heap.size := by have := Dt.lt; rcases hor with e | e; (have e3 := Option.some.inj e; omega); omega
  have hq1 : g1 ≠ w.heap.size + 1 := by have := Dr.lt; rcases hor with e | e; (have e3 := Option.some.inj e; omega); omega
  obtain ⟨R1, RC1, hbg1⟩ := R.grow hl hown1 hgrow hor;have P := P.trans (kp_append hgrow hor);have Dt := grown_at hgrow Dt (fun e2 => by have e3 := Option.some.inj e2; omega);have Dr := grown_at hgrow Dr (fun e2 => by have e3 := Option.some.inj e2; omega);clear hgrow hor hown1 De hw;refine hK.out _ _ Dt (fun hS => ?_);clear hK K
  (try simp only [Act.put, qd, qe, qf])
  refine tkH 8 hS ?_;refine wpAnyH_ready (rs := [9]) (by kernel_rfl) (by simp) ?_;refine' AllReadyH.cons (o := ?oor10) ?hor10 (fun K hK => ?str10) AllReadyH.nil
  case hor10 =>
   simp only [qa, qb, qc];exact rfl
  have aR0 := RC1.cell 0 _ rfl;have aR1 := RC1.cell 1 _ rfl;have aR2 := RC1.cell 2 _ rfl;have zR2 := RC1.free 2 _ rfl;have nR := RC1.lt;go_simp
  clear aR0 aR1 aR2 zR2;have hbt2 : b ≠ w.heap.size := by omega
  have hbt3 : b ≠ w.heap.size + 1 := by omega
  have P := P.setCell (p := ⟨b, 2, none⟩) (.inr rfl) (rowV g1 (n.length + 1) cap1);have Dt := Dt.far (b' := b) (j := 2) (by omega) (rowV g1 (n.length + 1) cap1);have Dr := Dr.far (b' := b) (j := 2) (by omega) (rowV g1 (n.length + 1) cap1);refine hK.out _ _ Dt (fun hS => ?_);clear hK K nR RC1
  (try simp only [Act.put, qd, qe, qf])
  refine wpAnyH_done (by kernel_rfl) ?_ _;clear hS;have R := R1;clear R1;generalize w1.setCell ⟨b, 2, none⟩ (rowV g1 (n.length + 1) cap1) = w2 at *;have ft := Dt.f4;have fr := Dr.f9;obtain ⟨aR0, aR1, aR2, zR1, zR2, nR, nG, kR⟩ := R.f;have hl1 : (n ++ [((m, 0) : Nat × Nat)]).length = n.length + 1 := by simp
  rw [hl1] at aR2;clear hl1;go_wp2_with fail
  clear ft fr aR0 aR1 aR2 zR1 zR2 nR nG kR;refine (swith_zero n.length (by omega) _).mono ?_;rintro e w2 ⟨rfl, hb2⟩;have Dt := Dt.below hb2;have Dr := Dr.below hb2;have R := R.below hb2;have P := P.below hb2;clear hb2;have ft := Dt.f4;have fr := Dr.f9;obtain ⟨aR0, aR1, aR2, zR1, zR2, nR, nG, kR⟩ := R.f;generalize 2 ^ n.length = q at *;go_upto_region 3 with (fail)
  clear ft fr aR0 aR1 aR2 zR1 zR2 nR nG kR;have ut3 := Dt.lt;have ur3 := Dr.lt;have Da := At.nw (w2) [.int .u64 (word (q) 0), .int .u64 (word (q) 1), .int .u64 (word (q) 2), .int .u64 (word (q) 3)] 104;obtain ⟨Dt, Dr, R, P⟩ := (fun o => And.intro (Dt.alloc o) (And.intro (Dr.alloc o) (And.intro (R.alloc o) (P.alloc o)))) (.cells #[.int .u64 (word (q) 0), .int .u64 (word (q) 1), .int .u64 (word (q) 2), .int .u64 (word (q) 3)] 104);generalize (w2).alloc (.cells #[.int .u64 (word (q) 0), .int .u64 (word (q) 1), .int .u64 (word (q) 2), .int .u64 (word (q) 3)] 104) = w4 at *;have ft := Dt.f4;have fr := Dr.f9;have fa := Da.f4;obtain ⟨aR0, aR1, aR2, zR1, zR2, nR, nG, kR⟩ := R.f;go_wp2_with fail
  clear ft fr fa aR0 aR1 aR2 zR1 zR2 nR nG kR;have q9 := fun o0 o1 o2 o3 o4 o5 o6 o7 o8 => And.intro (Dt.fars9 (w.heap.size + 1) (by omega) o0 o1 o2 o3 o4 o5 o6 o7 o8) (And.intro (Dr.puts9 o0 o1 o2 o3 o4 o5 o6 o7 o8) (And.intro (Da.fars9 (w.heap.size + 1) (by omega) o0 o1 o2 o3 o4 o5 o6 o7 o8) (And.intro (R.fars9 (w.heap.size + 1) (by omega) (by omega) (by omega) o0 o1 o2 o3 o4 o5 o6 o7 o8) (P.sets9 (w.heap.size + 1) (by omega) o0 o1 o2 o3 o4 o5 o6 o7 o8))));obtain ⟨Dt, Dr, Da, R, P⟩ := app9 q9 (q) (q) false;clear q9;have ft := Dt.f4;have fr := Dr.f9;have fa := Da.f4;obtain ⟨aR0, aR1, aR2, zR1, zR2, nR, nG, kR⟩ := R.f;refine bodyPost_ret (by simp [results, Tryz.results126, go_sem, fr]; try rfl) rfl ?_;exact ⟨g1, cap1, rfl, R, P⟩
 case str6_1 =>
  have ft := Dt.f4;have fr := Dr.f9;obtain ⟨aR0, aR1, aR2, zR1, zR2, nR, nG, kR⟩ := R.f;go_simp
  refine hK.out _ _ ?_ (fun hS => ?_)
  ·
   clear ft fr aR0 aR1 aR2 zR1 zR2 nR nG kR;have ut4 := Dt.lt;have ur4 := Dr.lt;have De := At.nw (v0) [.int .u64 (word (m) 0), .int .u64 (word (m) 1), .int .u64 (word (m) 2), .int .u64 (word (m) 3), .int .u64 0, .int .u64 0, .int .u64 0, .int .u64 0] 106;obtain ⟨Dt, Dr, R, P⟩ := (fun o => And.intro (Dt.alloc o) (And.intro (Dr.alloc o) (And.intro (R.alloc o) (P.alloc o)))) (.cells #[.int .u64 (word (m) 0), .int .u64 (word (m) 1), .int .u64 (word (m) 2), .int .u64 (word (m) 3), .int .u64 0, .int .u64 0, .int .u64 0, .int .u64 0] 106);exact Dt
  clear ft fr aR0 aR1 aR2 zR1 zR2 nR nG kR;have ut5 := Dt.lt;have ur5 := Dr.lt;have De := At.nw (v0) [.int .u64 (word (m) 0), .int .u64 (word (m) 1), .int .u64 (word (m) 2), .int .u64 (word (m) 3), .int .u64 0, .int .u64 0, .int .u64 0, .int .u64 0] 106;obtain ⟨Dt, Dr, R, P⟩ := (fun o => And.intro (Dt.alloc o) (And.intro (Dr.alloc o) (And.intro (R.alloc o) (P.alloc o)))) (.cells #[.int .u64 (word (m) 0), .int .u64 (word (m) 1), .int .u64 (word (m) 2), .int .u64 (word (m) 3), .int .u64 0, .int .u64 0, .int .u64 0, .int .u64 0] 106);clear hK K
  (try simp only [Act.put, qd, qe, qf])
  refine wpAnyH_ready (rs := [3]) (by kernel_rfl) (by simp) ?_;refine' AllReadyH.cons (o := ?oor12) ?hor12 (fun K hK => ?str12) AllReadyH.nil
  case hor12 =>
   simp only [qa, qb, qc];exact rfl
  have ft := Dt.f4;have fr := Dr.f9;have fe := De.f8;obtain ⟨aR0, aR1, aR2, zR1, zR2, nR, nG, kR⟩ := R.f;go_simp
  clear ft fr fe aR0 aR1 aR2 zR1 zR2 nR nG kR;refine hK.out _ _ ?_ (fun hS => ?_)
  · exact Dt
  clear hK K
  (try simp only [Act.put, qd, qe, qf])
  refine wpAnyH_ready (rs := [7]) (by kernel_rfl) (by simp) ?_;refine' AllReadyH.cons (o := ?oor13) ?hor13 (fun K hK => ?str13) AllReadyH.nil
  case hor13 =>
   simp only [qa, qb, qc];exact rfl
  have hw := R.net.own;have hsz := (below_new (Below.refl _ v0) (.cells #[.int .u64 (word (m) 0), .int .u64 (word (m) 1), .int .u64 (word (m) 2), .int .u64 (word (m) 3), .int .u64 0, .int .u64 0, .int .u64 0, .int .u64 0] 106)).size;refine step_append_lies _ (by rfl) (.tmp 9) (.tmp 12) 108 (by rfl) base 106 i0 (.agg #[.int .u64 0, .int .u64 0, .int .u64 0, .int .u64 0, .int .u64 0, .int .u64 0, .int .u64 0, .int .u64 0]) 8 64 Tryz.underlying108 HI.out HZ.out HZ1.out HZ2.out (by rfl) (by decide) (rowV g n.length cap) n.length (cellsN n) (by rfl) R.net.own ⟨v0.heap.size, 0, none⟩ 1 1 (nodeV (m, 0)) (by rfl) (by rfl) (fun j u hj => by rw [Addr.add_lit, Nat.zero_add]; exact De.cell j u (by rw [← node_zero]; exact hj)) (fun u hu => by rw [node_zero] at hu; simp only [List.mem_cons, List.not_mem_nil, or_false] at hu; rcases hu with rfl | rfl | rfl | rfl | rfl | rfl | rfl | rfl <;> rfl) (by decide) (by unfold maxLen; omega) (by omega) (by have := R.lt; omega) _ rfl ?_;intro g1 cap1 w1 hown1 hgrow hor hlt
  replace hgrow : World.grownBy _ _ (some g) := hgrow
  replace hor : some g = some g1 ∨ g1 = _ := hor
  have hq0 : g1 ≠ w.heap.size := by have := Dt.lt; rcases hor with e | e; (have e3 := Option.some.inj e; omega); omega
  have hq1 : g1 ≠ w.heap.size + 1 := by have := Dr.lt; rcases hor with e | e; (have e3 := Option.some.inj e; omega); omega
  obtain ⟨R1, RC1, hbg1⟩ := R.grow hl hown1 hgrow hor;have P := P.trans (kp_append hgrow hor);have Dt := grown_at hgrow Dt (fun e2 => by have e3 := Option.some.inj e2; omega);have Dr := grown_at hgrow Dr (fun e2 => by have e3 := Option.some.inj e2; omega);clear hgrow hor hown1 De hw;refine hK.out _ _ Dt (fun hS => ?_);clear hK K
  (try simp only [Act.put, qd, qe, qf])
  refine tkH 8 hS ?_;refine wpAnyH_ready (rs := [9]) (by kernel_rfl) (by simp) ?_;refine' AllReadyH.cons (o := ?oor15) ?hor15 (fun K hK => ?str15) AllReadyH.nil
  case hor15 =>
   simp only [qa, qb, qc];exact rfl
  have aR0 := RC1.cell 0 _ rfl;have aR1 := RC1.cell 1 _ rfl;have aR2 := RC1.cell 2 _ rfl;have zR2 := RC1.free 2 _ rfl;have nR := RC1.lt;go_simp
  clear aR0 aR1 aR2 zR2;have hbt2 : b ≠ w.heap.size := by omega
  have hbt3 : b ≠ w.heap.size + 1 := by omega
  have P := P.setCell (p := ⟨b, 2, none⟩) (.inr rfl) (rowV g1 (n.length + 1) cap1);have Dt := Dt.far (b' := b) (j := 2) (by omega) (rowV g1 (n.length + 1) cap1);have Dr := Dr.far (b' := b) (j := 2) (by omega) (rowV g1 (n.length + 1) cap1);refine hK.out _ _ Dt (fun hS => ?_);clear hK K nR RC1
  (try simp only [Act.put, qd, qe, qf])
  refine wpAnyH_done (by kernel_rfl) ?_ _;clear hS;have R := R1;clear R1;generalize w1.setCell ⟨b, 2, none⟩ (rowV g1 (n.length + 1) cap1) = w2 at *;have ft := Dt.f4;have fr := Dr.f9;obtain ⟨aR0, aR1, aR2, zR1, zR2, nR, nG, kR⟩ := R.f;have hl1 : (n ++ [((m, 0) : Nat × Nat)]).length = n.length + 1 := by simp
  rw [hl1] at aR2;clear hl1;go_wp2_with fail
  clear ft fr aR0 aR1 aR2 zR1 zR2 nR nG kR;refine (swith_zero n.length (by omega) _).mono ?_;rintro e w3 ⟨rfl, hb3⟩;have Dt := Dt.below hb3;have Dr := Dr.below hb3;have R := R.below hb3;have P := P.below hb3;clear hb3;have ft := Dt.f4;have fr := Dr.f9;obtain ⟨aR0, aR1, aR2, zR1, zR2, nR, nG, kR⟩ := R.f;generalize 2 ^ n.length = q at *;go_upto_region 3 with (fail)
  clear ft fr aR0 aR1 aR2 zR1 zR2 nR nG kR;have ut6 := Dt.lt;have ur6 := Dr.lt;have Da := At.nw (w3) [.int .u64 (word (q) 0), .int .u64 (word (q) 1), .int .u64 (word (q) 2), .int .u64 (word (q) 3)] 104;obtain ⟨Dt, Dr, R, P⟩ := (fun o => And.intro (Dt.alloc o) (And.intro (Dr.alloc o) (And.intro (R.alloc o) (P.alloc o)))) (.cells #[.int .u64 (word (q) 0), .int .u64 (word (q) 1), .int .u64 (word (q) 2), .int .u64 (word (q) 3)] 104);generalize (w3).alloc (.cells #[.int .u64 (word (q) 0), .int .u64 (word (q) 1), .int .u64 (word (q) 2), .int .u64 (word (q) 3)] 104) = w4 at *;have ft := Dt.f4;have fr := Dr.f9;have fa := Da.f4;obtain ⟨aR0, aR1, aR2, zR1, zR2, nR, nG, kR⟩ := R.f;go_wp2_with fail
  clear ft fr fa aR0 aR1 aR2 zR1 zR2 nR nG kR;have q9 := fun o0 o1 o2 o3 o4 o5 o6 o7 o8 => And.intro (Dt.fars9 (w.heap.size + 1) (by omega) o0 o1 o2 o3 o4 o5 o6 o7 o8) (And.intro (Dr.puts9 o0 o1 o2 o3 o4 o5 o6 o7 o8) (And.intro (Da.fars9 (w.heap.size + 1) (by omega) o0 o1 o2 o3 o4 o5 o6 o7 o8) (And.intro (R.fars9 (w.heap.size + 1) (by omega) (by omega) (by omega) o0 o1 o2 o3 o4 o5 o6 o7 o8) (P.sets9 (w.heap.size + 1) (by omega) o0 o1 o2 o3 o4 o5 o6 o7 o8))));obtain ⟨Dt, Dr, Da, R, P⟩ := app9 q9 (q) (q) false;clear q9;have ft := Dt.f4;have fr := Dr.f9;have fa := Da.f4;obtain ⟨aR0, aR1, aR2, zR1, zR2, nR, nG, kR⟩ := R.f;refine bodyPost_ret (by simp [results, Tryz.results126, go_sem, fr]; try rfl) rfl ?_;exact ⟨g1, cap1, rfl, R, P⟩
end Go.Proofs.YthdoniefjmphaaaGreatDoor
