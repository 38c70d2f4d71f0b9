/- regex: net.leaf. -/
import Derived.Test.YtcfdpbbpdnpnnaaDoorFrm
import Derived.Deep.RegionHeld3
import Derived.OrdersHeld
import Derived.Deep.AppendLies
import Derived.OwnWalk
import Derived.Deep.DeepCutAuto
namespace Go.Proofs.YtcfdpbbpdnpnnaaDoor
open Go Go.Proofs Go.RowKit Go.Shelf
set_option maxRecDepth 100000
attribute [local go_sem] cell_set
theorem info_node : (Tryd.prog.info? 47).map (fun i => (i.zero, i.size, i.bytes)) = some (some (.agg #[.int .u64 0, .int .u64 0, .int .u64 0, .int .u64 0, .int .u64 0, .int .u64 0, .int .u64 0, .int .u64 0]), 8, 64) := by kernel_rfl
theorem node_zero (m : Nat) : nodeV (m, 0) = [.int .u64 (word m 0), .int .u64 (word m 1), .int .u64 (word m 2), .int .u64 (word m 3), .int .u64 0, .int .u64 0, .int .u64 0, .int .u64 0] := by
 simp only [nodeV, wordsV, word_zero, List.cons_append, List.nil_append]
theorem bit_zero (x : Nat) : 0 ||| 2 ^ x = 2 ^ x := by simp
theorem swith_zero (x : Nat) (hx : x < 256) (w : World) :
  Calls Tryd.prog 30 #[.agg #[.int .u64 0, .int .u64 0, .int .u64 0, .int .u64 0], .int .u8 (x : Int)] w fun e w' => e = .returned (.agg #[.int .u64 (word (2 ^ x) 0), .int .u64 (word (2 ^ x) 1), .int .u64 (word (2 ^ x) 2), .int .u64 (word (2 ^ x) 3)]) ∧ Below w.heap.size w w' := by
 have h := swith_any 0 x hx w
 rw [setV_zero, bit_zero] at h
 exact h
set_option maxHeartbeats 4000000 in
theorem leaf_any (base b g cap k : Nat) (s : ByteArray) (l : List UInt8) (n : Rx.Nt) (hl : n.length ≤ 90) (m : Nat) (w : World) (R : Rd base b g cap s l k n w) :
  Calls Tryd.prog 60 #[.pointer (some ⟨b, 2, none⟩), setV m] w (GP base b g w s l (pceV ⟨2 ^ n.length, 2 ^ n.length, false⟩) k (n ++ [(m, 0)])) := by
 obtain ⟨i0, hi, hz0, hz1, hz2⟩ := info_parts info_node
 have HI := Lib.hid hi
 have HZ := Lib.hid hz0
 have HZ1 := Lib.hid hz1
 have HZ2 := Lib.hid hz2
 clear hi hz0 hz1 hz2
 obtain ⟨hbs, hgs, hts⟩ := R.lt
 have hbt := R.b1
 have hpos := R.pos
 have hbb := (R.net.lt g rfl).1
 have P := Kp.refl b g w
 unfold setV
 go_enter Tryd.func60, Tryd.ntmps60
 go_wp2
 have Dt : At (((w).alloc (.cells #[.int .u64 (word (m) 0), .int .u64 (word (m) 1), .int .u64 (word (m) 2), .int .u64 (word (m) 3)] 44)).alloc (.cells #[.int .u64 0, .int .u64 0, .int .u64 0, .int .u64 0, .int .u64 0, .int .u64 0, .int .u64 0, .int .u64 0, .bool false] 53)) (w.heap.size) [.int .u64 (word (m) 0), .int .u64 (word (m) 1), .int .u64 (word (m) 2), .int .u64 (word (m) 3)] := by have h := ((At.new (w) #[.int .u64 (word (m) 0), .int .u64 (word (m) 1), .int .u64 (word (m) 2), .int .u64 (word (m) 3)] 44).alloc (.cells #[.int .u64 0, .int .u64 0, .int .u64 0, .int .u64 0, .int .u64 0, .int .u64 0, .int .u64 0, .int .u64 0, .bool false] 53)); simpa using h
 have Dr : At (((w).alloc (.cells #[.int .u64 (word (m) 0), .int .u64 (word (m) 1), .int .u64 (word (m) 2), .int .u64 (word (m) 3)] 44)).alloc (.cells #[.int .u64 0, .int .u64 0, .int .u64 0, .int .u64 0, .int .u64 0, .int .u64 0, .int .u64 0, .int .u64 0, .bool false] 53)) (w.heap.size + 1) [.int .u64 0, .int .u64 0, .int .u64 0, .int .u64 0, .int .u64 0, .int .u64 0, .int .u64 0, .int .u64 0, .bool false] := by have h := (At.new ((w).alloc (.cells #[.int .u64 (word (m) 0), .int .u64 (word (m) 1), .int .u64 (word (m) 2), .int .u64 (word (m) 3)] 44)) #[.int .u64 0, .int .u64 0, .int .u64 0, .int .u64 0, .int .u64 0, .int .u64 0, .int .u64 0, .int .u64 0, .bool false] 53); simpa using h
 have R := ((R.alloc (.cells #[.int .u64 (word (m) 0), .int .u64 (word (m) 1), .int .u64 (word (m) 2), .int .u64 (word (m) 3)] 44)).alloc (.cells #[.int .u64 0, .int .u64 0, .int .u64 0, .int .u64 0, .int .u64 0, .int .u64 0, .int .u64 0, .int .u64 0, .bool false] 53))
 have P := ((P.alloc (.cells #[.int .u64 (word (m) 0), .int .u64 (word (m) 1), .int .u64 (word (m) 2), .int .u64 (word (m) 3)] 44)).alloc (.cells #[.int .u64 0, .int .u64 0, .int .u64 0, .int .u64 0, .int .u64 0, .int .u64 0, .int .u64 0, .int .u64 0, .bool false] 53))
 generalize ((w).alloc (.cells #[.int .u64 (word (m) 0), .int .u64 (word (m) 1), .int .u64 (word (m) 2), .int .u64 (word (m) 3)] 44)).alloc (.cells #[.int .u64 0, .int .u64 0, .int .u64 0, .int .u64 0, .int .u64 0, .int .u64 0, .int .u64 0, .int .u64 0, .bool false] 53) = W0 at *
 have Dt : At ((W0).drew) (w.heap.size) [.int .u64 (word (m) 0), .int .u64 (word (m) 1), .int .u64 (word (m) 2), .int .u64 (word (m) 3)] := Dt.drew
 have Dr : At ((W0).drew) (w.heap.size + 1) [.int .u64 0, .int .u64 0, .int .u64 0, .int .u64 0, .int .u64 0, .int .u64 0, .int .u64 0, .int .u64 0, .bool false] := Dr.drew
 have R := R.drew
 have P := P.drew
 refine wp_region_held_drew (S := fun u => At u (w.heap.size) [.int .u64 (word (m) 0), .int .u64 (word (m) 1), .int .u64 (word (m) 2), .int .u64 (word (m) 3)]) (by kernel_rfl) ?_ (fun hS => ?_)
 ·
  exact Dt
 generalize (W0).drew = v0 at *
 refine' wpAnyH_take (i := 0) (oi := ?oir1) (v := ?vr1) ?hir1 (by kernel_rfl) (by kernel_rfl) (by kernel_rfl) ?hQr1 ?hyr1 hS ?restr1
 case hir1 =>
  simp only [qa, qb, qc]
  exact rfl
 case hQr1 => exact fun _ _ _ h => h
 case hyr1 =>
  refine Or.inl ⟨by rfl, ?_⟩
  intro u hSw
  go_simp
  (try with_reducible rfl)
 (try simp only [Act.put, qd, qe, qf])
 refine' wpAnyH_take (i := 1) (oi := ?oir2) (v := ?vr2) ?hir2 (by kernel_rfl) (by kernel_rfl) (by kernel_rfl) ?hQr2 ?hyr2 hS ?restr2
 case hir2 =>
  simp only [qa, qb, qc]
  exact rfl
 case hQr2 => exact fun _ _ _ h => h
 case hyr2 =>
  refine Or.inl ⟨by rfl, ?_⟩
  intro u hSw
  go_simp
  (try with_reducible rfl)
 (try simp only [Act.put, qd, qe, qf])
 refine' wpAnyH_take (i := 2) (oi := ?oir3) (v := ?vr3) ?hir3 (by kernel_rfl) (by kernel_rfl) (by kernel_rfl) ?hQr3 ?hyr3 hS ?restr3
 case hir3 =>
  simp only [qa, qb, qc]
  exact rfl
 case hQr3 => exact fun _ _ _ h => h
 case hyr3 =>
  refine Or.inl ⟨by rfl, ?_⟩
  intro u hSw
  go_simp
  (try with_reducible rfl)
 (try simp only [Act.put, qd, qe, qf])
 refine' wpAnyH_take (i := 4) (oi := ?oir4) (v := ?vr4) ?hir4 (by kernel_rfl) (by kernel_rfl) (by kernel_rfl) ?hQr4 ?hyr4 hS ?restr4
 case hir4 =>
  simp only [qa, qb, qc]
  exact rfl
 case hQr4 => exact fun _ _ _ h => h
 case hyr4 =>
  refine Or.inl ⟨by rfl, ?_⟩
  intro u hSw
  have et := hSw
  have kt0 := et.cell 0 _ rfl
  have kt1 := et.cell 1 _ rfl
  have kt2 := et.cell 2 _ rfl
  have kt3 := et.cell 3 _ rfl
  have mt := et.lt
  clear et
  go_simp
  (try with_reducible rfl)
 (try simp only [Act.put, qd, qe, qf])
 refine' wpAnyH_take (i := 5) (oi := ?oir5) (v := ?vr5) ?hir5 (by kernel_rfl) (by kernel_rfl) (by kernel_rfl) ?hQr5 ?hyr5 hS ?restr5
 case hir5 =>
  simp only [qa, qb, qc]
  exact rfl
 case hQr5 => exact fun _ _ _ h => h
 case hyr5 =>
  refine Or.inl ⟨by rfl, ?_⟩
  intro u hSw
  go_simp
  (try with_reducible rfl)
 (try simp only [Act.put, qd, qe, qf])
 refine wpAnyH_ready (rs := [3, 6]) (by kernel_rfl) (by simp) ?_
 refine' AllReadyH.cons (o := ?oor6_0) ?hor6_0 (fun K hK => ?str6_0) (AllReadyH.cons (o := ?oor6_1) ?hor6_1 (fun K hK => ?str6_1) AllReadyH.nil)
 case hor6_0 =>
  simp only [qa, qb, qc]
  exact rfl
 case hor6_1 =>
  simp only [qa, qb, qc]
  exact rfl
 case str6_0 =>
  have ft := Dt.f4
  have fr := Dr.f9
  obtain ⟨aR0, aR1, aR2, zR1, zR2, nR, nG, kR⟩ := R.f
  go_simp
  clear ft fr aR0 aR1 aR2 zR1 zR2 nR nG kR
  refine hK.out _ _ ?_ (fun hS => ?_)
  · exact Dt
  clear hK K
  (try simp only [Act.put, qd, qe, qf])
  refine wpAnyH_ready (rs := [6]) (by kernel_rfl) (by simp) ?_
  refine' AllReadyH.cons (o := ?oor7) ?hor7 (fun K hK => ?str7) AllReadyH.nil
  case hor7 =>
   simp only [qa, qb, qc]
   exact rfl
  have ft := Dt.f4
  have fr := Dr.f9
  obtain ⟨aR0, aR1, aR2, zR1, zR2, nR, nG, kR⟩ := R.f
  go_simp
  refine hK.out _ _ ?_ (fun hS => ?_)
  ·
   clear ft fr aR0 aR1 aR2 zR1 zR2 nR nG kR
   have ut1 := Dt.lt
   have ur1 := Dr.lt
   have De : At ((v0).alloc (.cells #[.int .u64 (word (m) 0), .int .u64 (word (m) 1), .int .u64 (word (m) 2), .int .u64 (word (m) 3), .int .u64 0, .int .u64 0, .int .u64 0, .int .u64 0] 47)) (v0.heap.size) [.int .u64 (word (m) 0), .int .u64 (word (m) 1), .int .u64 (word (m) 2), .int .u64 (word (m) 3), .int .u64 0, .int .u64 0, .int .u64 0, .int .u64 0] := by have h := (At.new (v0) #[.int .u64 (word (m) 0), .int .u64 (word (m) 1), .int .u64 (word (m) 2), .int .u64 (word (m) 3), .int .u64 0, .int .u64 0, .int .u64 0, .int .u64 0] 47); simpa using h
   have Dt := (Dt.alloc (.cells #[.int .u64 (word (m) 0), .int .u64 (word (m) 1), .int .u64 (word (m) 2), .int .u64 (word (m) 3), .int .u64 0, .int .u64 0, .int .u64 0, .int .u64 0] 47))
   have Dr := (Dr.alloc (.cells #[.int .u64 (word (m) 0), .int .u64 (word (m) 1), .int .u64 (word (m) 2), .int .u64 (word (m) 3), .int .u64 0, .int .u64 0, .int .u64 0, .int .u64 0] 47))
   have R := (R.alloc (.cells #[.int .u64 (word (m) 0), .int .u64 (word (m) 1), .int .u64 (word (m) 2), .int .u64 (word (m) 3), .int .u64 0, .int .u64 0, .int .u64 0, .int .u64 0] 47))
   have P := (P.alloc (.cells #[.int .u64 (word (m) 0), .int .u64 (word (m) 1), .int .u64 (word (m) 2), .int .u64 (word (m) 3), .int .u64 0, .int .u64 0, .int .u64 0, .int .u64 0] 47))
   exact Dt
  clear ft fr aR0 aR1 aR2 zR1 zR2 nR nG kR
  have ut2 := Dt.lt
  have ur2 := Dr.lt
  have De : At ((v0).alloc (.cells #[.int .u64 (word (m) 0), .int .u64 (word (m) 1), .int .u64 (word (m) 2), .int .u64 (word (m) 3), .int .u64 0, .int .u64 0, .int .u64 0, .int .u64 0] 47)) (v0.heap.size) [.int .u64 (word (m) 0), .int .u64 (word (m) 1), .int .u64 (word (m) 2), .int .u64 (word (m) 3), .int .u64 0, .int .u64 0, .int .u64 0, .int .u64 0] := by have h := (At.new (v0) #[.int .u64 (word (m) 0), .int .u64 (word (m) 1), .int .u64 (word (m) 2), .int .u64 (word (m) 3), .int .u64 0, .int .u64 0, .int .u64 0, .int .u64 0] 47); simpa using h
  have Dt := (Dt.alloc (.cells #[.int .u64 (word (m) 0), .int .u64 (word (m) 1), .int .u64 (word (m) 2), .int .u64 (word (m) 3), .int .u64 0, .int .u64 0, .int .u64 0, .int .u64 0] 47))
  have Dr := (Dr.alloc (.cells #[.int .u64 (word (m) 0), .int .u64 (word (m) 1), .int .u64 (word (m) 2), .int .u64 (word (m) 3), .int .u64 0, .int .u64 0, .int .u64 0, .int .u64 0] 47))
  have R := (R.alloc (.cells #[.int .u64 (word (m) 0), .int .u64 (word (m) 1), .int .u64 (word (m) 2), .int .u64 (word (m) 3), .int .u64 0, .int .u64 0, .int .u64 0, .int .u64 0] 47))
  have P := (P.alloc (.cells #[.int .u64 (word (m) 0), .int .u64 (word (m) 1), .int .u64 (word (m) 2), .int .u64 (word (m) 3), .int .u64 0, .int .u64 0, .int .u64 0, .int .u64 0] 47))
  clear hK K
  (try simp only [Act.put, qd, qe, qf])
  refine wpAnyH_ready (rs := [7]) (by kernel_rfl) (by simp) ?_
  refine' AllReadyH.cons (o := ?oor8) ?hor8 (fun K hK => ?str8) AllReadyH.nil
  case hor8 =>
   simp only [qa, qb, qc]
   exact rfl
  have hw := R.net.own
  have hsz := (below_new (Below.refl _ v0) (.cells #[.int .u64 (word (m) 0), .int .u64 (word (m) 1), .int .u64 (word (m) 2), .int .u64 (word (m) 3), .int .u64 0, .int .u64 0, .int .u64 0, .int .u64 0] 47)).size
  refine step_append_lies _ (by rfl) (.tmp 9) (.tmp 12) 49 (by rfl) base 47 i0 (.agg #[.int .u64 0, .int .u64 0, .int .u64 0, .int .u64 0, .int .u64 0, .int .u64 0, .int .u64 0, .int .u64 0]) 8 64 Tryd.underlying49 HI.out HZ.out HZ1.out HZ2.out (by rfl) (by decide) (rowV g n.length cap) n.length (cellsN n) (by rfl) R.net.own ⟨v0.heap.size, 0, none⟩ 1 1 (nodeV (m, 0)) (by rfl) (by rfl) (fun j u hj => by rw [Addr.add_lit, Nat.zero_add]; exact De.cell j u (by rw [← node_zero]; exact hj)) (fun u hu => by rw [node_zero] at hu; simp only [List.mem_cons, List.not_mem_nil, or_false] at hu; rcases hu with rfl | rfl | rfl | rfl | rfl | rfl | rfl | rfl <;> rfl) (by decide) (by unfold maxLen; omega) (by omega) (by have := R.lt; omega) _ rfl ?_
  intro g1 cap1 w1 hown1 hgrow hor hlt
  replace hgrow : World.grownBy _ _ (some g) := hgrow
  replace hor : some g = some g1 ∨ g1 = _ := hor
  have hq0 : g1 ≠ w.heap.size := by have := Dt.lt; rcases hor with e | e; (have e3 := Option.some.inj e; omega); omega
  have hq1 : g1 ≠ w.heap.size + 1 := by have := Dr.lt; rcases hor with e | e; (have e3 := Option.some.inj e; omega); omega
  obtain ⟨R1, RC1, hbg1⟩ := R.grow hl hown1 hgrow hor
  have P := P.trans (kp_append hgrow hor)
  have Dt := grown_at hgrow Dt (fun e2 => by have e3 := Option.some.inj e2; omega)
  have Dr := grown_at hgrow Dr (fun e2 => by have e3 := Option.some.inj e2; omega)
  clear hgrow hor hown1 De hw
  refine hK.out _ _ Dt (fun hS => ?_)
  clear hK K
  (try simp only [Act.put, qd, qe, qf])
  refine' wpAnyH_take (i := 8) (oi := ?oir9) (v := ?vr9) ?hir9 (by kernel_rfl) (by kernel_rfl) (by kernel_rfl) ?hQr9 ?hyr9 hS ?restr9
  case hir9 =>
   simp only [qa, qb, qc]
   exact rfl
  case hQr9 => exact fun _ _ _ h => h
  case hyr9 =>
   refine Or.inl ⟨by rfl, ?_⟩
   intro u hSw
   go_simp
   (try with_reducible rfl)
  (try simp only [Act.put, qd, qe, qf])
  refine wpAnyH_ready (rs := [9]) (by kernel_rfl) (by simp) ?_
  refine' AllReadyH.cons (o := ?oor10) ?hor10 (fun K hK => ?str10) AllReadyH.nil
  case hor10 =>
   simp only [qa, qb, qc]
   exact rfl
  have aR0 := RC1.cell 0 _ rfl
  have aR1 := RC1.cell 1 _ rfl
  have aR2 := RC1.cell 2 _ rfl
  have zR2 := RC1.free 2 _ rfl
  have nR := RC1.lt
  go_simp
  clear aR0 aR1 aR2 zR2
  have hbt2 : b ≠ w.heap.size := by omega
  have hbt3 : b ≠ w.heap.size + 1 := by omega
  have P := P.setCell (p := ⟨b, 2, none⟩) (.inr rfl) (rowV g1 (n.length + 1) cap1)
  have Dt := Dt.far (b' := b) (j := 2) (by omega) (rowV g1 (n.length + 1) cap1)
  have Dr := Dr.far (b' := b) (j := 2) (by omega) (rowV g1 (n.length + 1) cap1)
  refine hK.out _ _ Dt (fun hS => ?_)
  clear hK K nR RC1
  (try simp only [Act.put, qd, qe, qf])
  refine wpAnyH_done (by kernel_rfl) ?_ _
  clear hS
  have R := R1
  clear R1
  generalize w1.setCell ⟨b, 2, none⟩ (rowV g1 (n.length + 1) cap1) = w2 at *
  have ft := Dt.f4
  have fr := Dr.f9
  obtain ⟨aR0, aR1, aR2, zR1, zR2, nR, nG, kR⟩ := R.f
  have hl1 : (n ++ [((m, 0) : Nat × Nat)]).length = n.length + 1 := by simp
  rw [hl1] at aR2
  clear hl1
  go_wp2_with fail
  clear ft fr aR0 aR1 aR2 zR1 zR2 nR nG kR
  refine (swith_zero n.length (by omega) _).mono ?_
  rintro e w2 ⟨rfl, hb2⟩
  have Dt := Dt.below hb2
  have Dr := Dr.below hb2
  have R := R.below hb2
  have P := P.below hb2
  clear hb2
  have ft := Dt.f4
  have fr := Dr.f9
  obtain ⟨aR0, aR1, aR2, zR1, zR2, nR, nG, kR⟩ := R.f
  generalize 2 ^ n.length = q at *
  go_upto_region 3 with (fail)
  clear ft fr aR0 aR1 aR2 zR1 zR2 nR nG kR
  have ut3 := Dt.lt
  have ur3 := Dr.lt
  have Da : At ((w2).alloc (.cells #[.int .u64 (word (q) 0), .int .u64 (word (q) 1), .int .u64 (word (q) 2), .int .u64 (word (q) 3)] 45)) (w2.heap.size) [.int .u64 (word (q) 0), .int .u64 (word (q) 1), .int .u64 (word (q) 2), .int .u64 (word (q) 3)] := by have h := (At.new (w2) #[.int .u64 (word (q) 0), .int .u64 (word (q) 1), .int .u64 (word (q) 2), .int .u64 (word (q) 3)] 45); simpa using h
  have Dt := (Dt.alloc (.cells #[.int .u64 (word (q) 0), .int .u64 (word (q) 1), .int .u64 (word (q) 2), .int .u64 (word (q) 3)] 45))
  have Dr := (Dr.alloc (.cells #[.int .u64 (word (q) 0), .int .u64 (word (q) 1), .int .u64 (word (q) 2), .int .u64 (word (q) 3)] 45))
  have R := (R.alloc (.cells #[.int .u64 (word (q) 0), .int .u64 (word (q) 1), .int .u64 (word (q) 2), .int .u64 (word (q) 3)] 45))
  have P := (P.alloc (.cells #[.int .u64 (word (q) 0), .int .u64 (word (q) 1), .int .u64 (word (q) 2), .int .u64 (word (q) 3)] 45))
  generalize (w2).alloc (.cells #[.int .u64 (word (q) 0), .int .u64 (word (q) 1), .int .u64 (word (q) 2), .int .u64 (word (q) 3)] 45) = w4 at *
  have ft := Dt.f4
  have fr := Dr.f9
  have fa := Da.f4
  obtain ⟨aR0, aR1, aR2, zR1, zR2, nR, nG, kR⟩ := R.f
  go_wp2_with fail
  clear ft fr fa aR0 aR1 aR2 zR1 zR2 nR nG kR
  have Dt := (Dt.fars9 (w.heap.size + 1) (by omega) (.int .u64 (word (q) 0)) (.int .u64 (word (q) 1)) (.int .u64 (word (q) 2)) (.int .u64 (word (q) 3)) (.int .u64 (word (q) 0)) (.int .u64 (word (q) 1)) (.int .u64 (word (q) 2)) (.int .u64 (word (q) 3)) (.bool false))
  have Dr := (Dr.puts9 (.int .u64 (word (q) 0)) (.int .u64 (word (q) 1)) (.int .u64 (word (q) 2)) (.int .u64 (word (q) 3)) (.int .u64 (word (q) 0)) (.int .u64 (word (q) 1)) (.int .u64 (word (q) 2)) (.int .u64 (word (q) 3)) (.bool false))
  have Da := (Da.fars9 (w.heap.size + 1) (by omega) (.int .u64 (word (q) 0)) (.int .u64 (word (q) 1)) (.int .u64 (word (q) 2)) (.int .u64 (word (q) 3)) (.int .u64 (word (q) 0)) (.int .u64 (word (q) 1)) (.int .u64 (word (q) 2)) (.int .u64 (word (q) 3)) (.bool false))
  have R := (R.fars9 (w.heap.size + 1) (by omega) (by omega) (by omega) (.int .u64 (word (q) 0)) (.int .u64 (word (q) 1)) (.int .u64 (word (q) 2)) (.int .u64 (word (q) 3)) (.int .u64 (word (q) 0)) (.int .u64 (word (q) 1)) (.int .u64 (word (q) 2)) (.int .u64 (word (q) 3)) (.bool false))
  have P := (P.sets9 (w.heap.size + 1) (by omega) (.int .u64 (word (q) 0)) (.int .u64 (word (q) 1)) (.int .u64 (word (q) 2)) (.int .u64 (word (q) 3)) (.int .u64 (word (q) 0)) (.int .u64 (word (q) 1)) (.int .u64 (word (q) 2)) (.int .u64 (word (q) 3)) (.bool false))
  have ft := Dt.f4
  have fr := Dr.f9
  have fa := Da.f4
  obtain ⟨aR0, aR1, aR2, zR1, zR2, nR, nG, kR⟩ := R.f
  refine bodyPost_ret (by simp [results, Tryd.results60, go_sem, fr]; try rfl) rfl ?_
  exact ⟨g1, cap1, rfl, R, P⟩
 case str6_1 =>
  have ft := Dt.f4
  have fr := Dr.f9
  obtain ⟨aR0, aR1, aR2, zR1, zR2, nR, nG, kR⟩ := R.f
  go_simp
  refine hK.out _ _ ?_ (fun hS => ?_)
  ·
   clear ft fr aR0 aR1 aR2 zR1 zR2 nR nG kR
   have ut4 := Dt.lt
   have ur4 := Dr.lt
   have De : At ((v0).alloc (.cells #[.int .u64 (word (m) 0), .int .u64 (word (m) 1), .int .u64 (word (m) 2), .int .u64 (word (m) 3), .int .u64 0, .int .u64 0, .int .u64 0, .int .u64 0] 47)) (v0.heap.size) [.int .u64 (word (m) 0), .int .u64 (word (m) 1), .int .u64 (word (m) 2), .int .u64 (word (m) 3), .int .u64 0, .int .u64 0, .int .u64 0, .int .u64 0] := by have h := (At.new (v0) #[.int .u64 (word (m) 0), .int .u64 (word (m) 1), .int .u64 (word (m) 2), .int .u64 (word (m) 3), .int .u64 0, .int .u64 0, .int .u64 0, .int .u64 0] 47); simpa using h
   have Dt := (Dt.alloc (.cells #[.int .u64 (word (m) 0), .int .u64 (word (m) 1), .int .u64 (word (m) 2), .int .u64 (word (m) 3), .int .u64 0, .int .u64 0, .int .u64 0, .int .u64 0] 47))
   have Dr := (Dr.alloc (.cells #[.int .u64 (word (m) 0), .int .u64 (word (m) 1), .int .u64 (word (m) 2), .int .u64 (word (m) 3), .int .u64 0, .int .u64 0, .int .u64 0, .int .u64 0] 47))
   have R := (R.alloc (.cells #[.int .u64 (word (m) 0), .int .u64 (word (m) 1), .int .u64 (word (m) 2), .int .u64 (word (m) 3), .int .u64 0, .int .u64 0, .int .u64 0, .int .u64 0] 47))
   have P := (P.alloc (.cells #[.int .u64 (word (m) 0), .int .u64 (word (m) 1), .int .u64 (word (m) 2), .int .u64 (word (m) 3), .int .u64 0, .int .u64 0, .int .u64 0, .int .u64 0] 47))
   exact Dt
  clear ft fr aR0 aR1 aR2 zR1 zR2 nR nG kR
  have ut5 := Dt.lt
  have ur5 := Dr.lt
  have De : At ((v0).alloc (.cells #[.int .u64 (word (m) 0), .int .u64 (word (m) 1), .int .u64 (word (m) 2), .int .u64 (word (m) 3), .int .u64 0, .int .u64 0, .int .u64 0, .int .u64 0] 47)) (v0.heap.size) [.int .u64 (word (m) 0), .int .u64 (word (m) 1), .int .u64 (word (m) 2), .int .u64 (word (m) 3), .int .u64 0, .int .u64 0, .int .u64 0, .int .u64 0] := by have h := (At.new (v0) #[.int .u64 (word (m) 0), .int .u64 (word (m) 1), .int .u64 (word (m) 2), .int .u64 (word (m) 3), .int .u64 0, .int .u64 0, .int .u64 0, .int .u64 0] 47); simpa using h
  have Dt := (Dt.alloc (.cells #[.int .u64 (word (m) 0), .int .u64 (word (m) 1), .int .u64 (word (m) 2), .int .u64 (word (m) 3), .int .u64 0, .int .u64 0, .int .u64 0, .int .u64 0] 47))
  have Dr := (Dr.alloc (.cells #[.int .u64 (word (m) 0), .int .u64 (word (m) 1), .int .u64 (word (m) 2), .int .u64 (word (m) 3), .int .u64 0, .int .u64 0, .int .u64 0, .int .u64 0] 47))
  have R := (R.alloc (.cells #[.int .u64 (word (m) 0), .int .u64 (word (m) 1), .int .u64 (word (m) 2), .int .u64 (word (m) 3), .int .u64 0, .int .u64 0, .int .u64 0, .int .u64 0] 47))
  have P := (P.alloc (.cells #[.int .u64 (word (m) 0), .int .u64 (word (m) 1), .int .u64 (word (m) 2), .int .u64 (word (m) 3), .int .u64 0, .int .u64 0, .int .u64 0, .int .u64 0] 47))
  clear hK K
  (try simp only [Act.put, qd, qe, qf])
  refine wpAnyH_ready (rs := [3]) (by kernel_rfl) (by simp) ?_
  refine' AllReadyH.cons (o := ?oor12) ?hor12 (fun K hK => ?str12) AllReadyH.nil
  case hor12 =>
   simp only [qa, qb, qc]
   exact rfl
  have ft := Dt.f4
  have fr := Dr.f9
  have fe := De.f8
  obtain ⟨aR0, aR1, aR2, zR1, zR2, nR, nG, kR⟩ := R.f
  go_simp
  clear ft fr fe aR0 aR1 aR2 zR1 zR2 nR nG kR
  refine hK.out _ _ ?_ (fun hS => ?_)
  · exact Dt
  clear hK K
  (try simp only [Act.put, qd, qe, qf])
  refine wpAnyH_ready (rs := [7]) (by kernel_rfl) (by simp) ?_
  refine' AllReadyH.cons (o := ?oor13) ?hor13 (fun K hK => ?str13) AllReadyH.nil
  case hor13 =>
   simp only [qa, qb, qc]
   exact rfl
  have hw := R.net.own
  have hsz := (below_new (Below.refl _ v0) (.cells #[.int .u64 (word (m) 0), .int .u64 (word (m) 1), .int .u64 (word (m) 2), .int .u64 (word (m) 3), .int .u64 0, .int .u64 0, .int .u64 0, .int .u64 0] 47)).size
  refine step_append_lies _ (by rfl) (.tmp 9) (.tmp 12) 49 (by rfl) base 47 i0 (.agg #[.int .u64 0, .int .u64 0, .int .u64 0, .int .u64 0, .int .u64 0, .int .u64 0, .int .u64 0, .int .u64 0]) 8 64 Tryd.underlying49 HI.out HZ.out HZ1.out HZ2.out (by rfl) (by decide) (rowV g n.length cap) n.length (cellsN n) (by rfl) R.net.own ⟨v0.heap.size, 0, none⟩ 1 1 (nodeV (m, 0)) (by rfl) (by rfl) (fun j u hj => by rw [Addr.add_lit, Nat.zero_add]; exact De.cell j u (by rw [← node_zero]; exact hj)) (fun u hu => by rw [node_zero] at hu; simp only [List.mem_cons, List.not_mem_nil, or_false] at hu; rcases hu with rfl | rfl | rfl | rfl | rfl | rfl | rfl | rfl <;> rfl) (by decide) (by unfold maxLen; omega) (by omega) (by have := R.lt; omega) _ rfl ?_
  intro g1 cap1 w1 hown1 hgrow hor hlt
  replace hgrow : World.grownBy _ _ (some g) := hgrow
  replace hor : some g = some g1 ∨ g1 = _ := hor
  have hq0 : g1 ≠ w.heap.size := by have := Dt.lt; rcases hor with e | e; (have e3 := Option.some.inj e; omega); omega
  have hq1 : g1 ≠ w.heap.size + 1 := by have := Dr.lt; rcases hor with e | e; (have e3 := Option.some.inj e; omega); omega
  obtain ⟨R1, RC1, hbg1⟩ := R.grow hl hown1 hgrow hor
  have P := P.trans (kp_append hgrow hor)
  have Dt := grown_at hgrow Dt (fun e2 => by have e3 := Option.some.inj e2; omega)
  have Dr := grown_at hgrow Dr (fun e2 => by have e3 := Option.some.inj e2; omega)
  clear hgrow hor hown1 De hw
  refine hK.out _ _ Dt (fun hS => ?_)
  clear hK K
  (try simp only [Act.put, qd, qe, qf])
  refine' wpAnyH_take (i := 8) (oi := ?oir14) (v := ?vr14) ?hir14 (by kernel_rfl) (by kernel_rfl) (by kernel_rfl) ?hQr14 ?hyr14 hS ?restr14
  case hir14 =>
   simp only [qa, qb, qc]
   exact rfl
  case hQr14 => exact fun _ _ _ h => h
  case hyr14 =>
   refine Or.inl ⟨by rfl, ?_⟩
   intro u hSw
   go_simp
   (try with_reducible rfl)
  (try simp only [Act.put, qd, qe, qf])
  refine wpAnyH_ready (rs := [9]) (by kernel_rfl) (by simp) ?_
  refine' AllReadyH.cons (o := ?oor15) ?hor15 (fun K hK => ?str15) AllReadyH.nil
  case hor15 =>
   simp only [qa, qb, qc]
   exact rfl
  have aR0 := RC1.cell 0 _ rfl
  have aR1 := RC1.cell 1 _ rfl
  have aR2 := RC1.cell 2 _ rfl
  have zR2 := RC1.free 2 _ rfl
  have nR := RC1.lt
  go_simp
  clear aR0 aR1 aR2 zR2
  have hbt2 : b ≠ w.heap.size := by omega
  have hbt3 : b ≠ w.heap.size + 1 := by omega
  have P := P.setCell (p := ⟨b, 2, none⟩) (.inr rfl) (rowV g1 (n.length + 1) cap1)
  have Dt := Dt.far (b' := b) (j := 2) (by omega) (rowV g1 (n.length + 1) cap1)
  have Dr := Dr.far (b' := b) (j := 2) (by omega) (rowV g1 (n.length + 1) cap1)
  refine hK.out _ _ Dt (fun hS => ?_)
  clear hK K nR RC1
  (try simp only [Act.put, qd, qe, qf])
  refine wpAnyH_done (by kernel_rfl) ?_ _
  clear hS
  have R := R1
  clear R1
  generalize w1.setCell ⟨b, 2, none⟩ (rowV g1 (n.length + 1) cap1) = w2 at *
  have ft := Dt.f4
  have fr := Dr.f9
  obtain ⟨aR0, aR1, aR2, zR1, zR2, nR, nG, kR⟩ := R.f
  have hl1 : (n ++ [((m, 0) : Nat × Nat)]).length = n.length + 1 := by simp
  rw [hl1] at aR2
  clear hl1
  go_wp2_with fail
  clear ft fr aR0 aR1 aR2 zR1 zR2 nR nG kR
  refine (swith_zero n.length (by omega) _).mono ?_
  rintro e w3 ⟨rfl, hb3⟩
  have Dt := Dt.below hb3
  have Dr := Dr.below hb3
  have R := R.below hb3
  have P := P.below hb3
  clear hb3
  have ft := Dt.f4
  have fr := Dr.f9
  obtain ⟨aR0, aR1, aR2, zR1, zR2, nR, nG, kR⟩ := R.f
  generalize 2 ^ n.length = q at *
  go_upto_region 3 with (fail)
  clear ft fr aR0 aR1 aR2 zR1 zR2 nR nG kR
  have ut6 := Dt.lt
  have ur6 := Dr.lt
  have Da : At ((w3).alloc (.cells #[.int .u64 (word (q) 0), .int .u64 (word (q) 1), .int .u64 (word (q) 2), .int .u64 (word (q) 3)] 45)) (w3.heap.size) [.int .u64 (word (q) 0), .int .u64 (word (q) 1), .int .u64 (word (q) 2), .int .u64 (word (q) 3)] := by have h := (At.new (w3) #[.int .u64 (word (q) 0), .int .u64 (word (q) 1), .int .u64 (word (q) 2), .int .u64 (word (q) 3)] 45); simpa using h
  have Dt := (Dt.alloc (.cells #[.int .u64 (word (q) 0), .int .u64 (word (q) 1), .int .u64 (word (q) 2), .int .u64 (word (q) 3)] 45))
  have Dr := (Dr.alloc (.cells #[.int .u64 (word (q) 0), .int .u64 (word (q) 1), .int .u64 (word (q) 2), .int .u64 (word (q) 3)] 45))
  have R := (R.alloc (.cells #[.int .u64 (word (q) 0), .int .u64 (word (q) 1), .int .u64 (word (q) 2), .int .u64 (word (q) 3)] 45))
  have P := (P.alloc (.cells #[.int .u64 (word (q) 0), .int .u64 (word (q) 1), .int .u64 (word (q) 2), .int .u64 (word (q) 3)] 45))
  generalize (w3).alloc (.cells #[.int .u64 (word (q) 0), .int .u64 (word (q) 1), .int .u64 (word (q) 2), .int .u64 (word (q) 3)] 45) = w4 at *
  have ft := Dt.f4
  have fr := Dr.f9
  have fa := Da.f4
  obtain ⟨aR0, aR1, aR2, zR1, zR2, nR, nG, kR⟩ := R.f
  go_wp2_with fail
  clear ft fr fa aR0 aR1 aR2 zR1 zR2 nR nG kR
  have Dt := (Dt.fars9 (w.heap.size + 1) (by omega) (.int .u64 (word (q) 0)) (.int .u64 (word (q) 1)) (.int .u64 (word (q) 2)) (.int .u64 (word (q) 3)) (.int .u64 (word (q) 0)) (.int .u64 (word (q) 1)) (.int .u64 (word (q) 2)) (.int .u64 (word (q) 3)) (.bool false))
  have Dr := (Dr.puts9 (.int .u64 (word (q) 0)) (.int .u64 (word (q) 1)) (.int .u64 (word (q) 2)) (.int .u64 (word (q) 3)) (.int .u64 (word (q) 0)) (.int .u64 (word (q) 1)) (.int .u64 (word (q) 2)) (.int .u64 (word (q) 3)) (.bool false))
  have Da := (Da.fars9 (w.heap.size + 1) (by omega) (.int .u64 (word (q) 0)) (.int .u64 (word (q) 1)) (.int .u64 (word (q) 2)) (.int .u64 (word (q) 3)) (.int .u64 (word (q) 0)) (.int .u64 (word (q) 1)) (.int .u64 (word (q) 2)) (.int .u64 (word (q) 3)) (.bool false))
  have R := (R.fars9 (w.heap.size + 1) (by omega) (by omega) (by omega) (.int .u64 (word (q) 0)) (.int .u64 (word (q) 1)) (.int .u64 (word (q) 2)) (.int .u64 (word (q) 3)) (.int .u64 (word (q) 0)) (.int .u64 (word (q) 1)) (.int .u64 (word (q) 2)) (.int .u64 (word (q) 3)) (.bool false))
  have P := (P.sets9 (w.heap.size + 1) (by omega) (.int .u64 (word (q) 0)) (.int .u64 (word (q) 1)) (.int .u64 (word (q) 2)) (.int .u64 (word (q) 3)) (.int .u64 (word (q) 0)) (.int .u64 (word (q) 1)) (.int .u64 (word (q) 2)) (.int .u64 (word (q) 3)) (.bool false))
  have ft := Dt.f4
  have fr := Dr.f9
  have fa := Da.f4
  obtain ⟨aR0, aR1, aR2, zR1, zR2, nR, nG, kR⟩ := R.f
  refine bodyPost_ret (by simp [results, Tryd.results60, go_sem, fr]; try rfl) rfl ?_
  exact ⟨g1, cap1, rfl, R, P⟩
end Go.Proofs.YtcfdpbbpdnpnnaaDoor
