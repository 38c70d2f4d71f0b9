/- regex: net.join. -/
import Derived.Test.YtcfdpbbpdnpnnaaDoorNet
import Derived.Test.YtcfdpbbpdnpnnaaDoorOps
namespace Go.Proofs.YtcfdpbbpdnpnnaaDoor
open Go Go.Proofs Go.RowKit Go.Shelf
set_option maxRecDepth 100000
attribute [local go_sem] Oper.semAt_some
theorem At.low {B : Nat} {w wx : World} {b : Nat} {l : List Value} (h : At w b l) (hb : Below B w wx) (hB : b < B) : At wx b l :=
 ⟨Nat.lt_of_lt_of_le h.lt hb.size, fun j v hv => (hb.cell (p := ⟨b, j, none⟩) hB).trans (h.cell j v hv), fun j v hv => (hb.frozen (p := ⟨b, j, none⟩) hB).trans (h.free j v hv)⟩
theorem KB.refl (W : World) : KB W W := ⟨Nat.le_refl _, rfl⟩
theorem kb_put {w : World} (ht : 1 < w.heap.size) : ∀ (W : World) (l : Nat) (o o' : Obj), w.heap.size ≤ l → W.heap[l]? = some o → o.isCells = false → o.isWalk = false → KB W (W.putObj l o') :=
 fun W l o o' hl _ _ _ => ⟨by simp, World.putObj_heap_other (by omega)⟩
/-- between two rounds -/
structure JI (base : Nat) (w W0 : World) (v : Value) (n : Rx.Nt) (next : Nat) (pre : List Nat) (W : World) : Prop where
 sz : W0.heap.size ≤ W.heap.size
 net : NetR base W v (pre.foldl (Rx.joinS next) n)
 bn : At W w.heap.size [v]
 bx : At W (w.heap.size + 1 + 1) (wordsV next)
 gr : w.grownBy W v.ownBlock
theorem JI.low {base : Nat} {w W0 : World} {v : Value} {n : Rx.Nt} {next : Nat} {pre : List Nat} {W W' : World} (hz : w.heap.size + 1 + 1 < W0.heap.size) (hv : ∀ g, v.ownBlock = some g → g < w.heap.size) (ht : 1 < w.heap.size) (h : JI base w W0 v n next pre W) (hb : Below W0.heap.size W W') : JI base w W0 v n next pre W' :=
 ⟨Nat.le_trans h.sz hb.size, h.net.same hb.size (fun g e => hb.block g (by have := hv g e; omega)) (hb.block _ (by omega)), h.bn.low hb (by omega), h.bx.low hb (by omega),
  ⟨hb.os.trans h.gr.os, hb.tape.trans h.gr.tape, hb.output.trans h.gr.output, Nat.le_trans h.gr.size hb.size, fun k hk hr => (hb.block k (by omega)).trans (h.gr.block k hk hr)⟩⟩
theorem fold_joinS_length (next : Nat) : ∀ (l : List Nat) (n : Rx.Nt), (l.foldl (Rx.joinS next) n).length = n.length := by
 intro l
 induction l with
 | nil => intro n; rfl
 | cons i t ih => intro n; rw [List.foldl_cons, ih]; unfold Rx.joinS; simp
theorem net_joined {base g m cap x next : Nat} {w : World} {cur : Rx.Nt} {e : Nat × Nat} (h : NetR base w (.slice (some ⟨g, 0, none⟩) m cap) cur) (hm : cur.length = m) (he : cur[x]? = some e) :
  NetR base ((((w.setCell ⟨g, x * 8 + 4, none⟩ (.int .u64 (word (e.2 ||| next) 0))).setCell ⟨g, x * 8 + 4 + 1, none⟩ (.int .u64 (word (e.2 ||| next) 1))).setCell ⟨g, x * 8 + 4 + 2, none⟩ (.int .u64 (word (e.2 ||| next) 2))).setCell ⟨g, x * 8 + 4 + 3, none⟩ (.int .u64 (word (e.2 ||| next) 3))) (.slice (some ⟨g, 0, none⟩) m cap) (Rx.joinS next cur x) ∧
  w.grownBy ((((w.setCell ⟨g, x * 8 + 4, none⟩ (.int .u64 (word (e.2 ||| next) 0))).setCell ⟨g, x * 8 + 4 + 1, none⟩ (.int .u64 (word (e.2 ||| next) 1))).setCell ⟨g, x * 8 + 4 + 2, none⟩ (.int .u64 (word (e.2 ||| next) 2))).setCell ⟨g, x * 8 + 4 + 3, none⟩ (.int .u64 (word (e.2 ||| next) 3))) (some g) := by
 have ho := h.own
 rw [hm] at ho
 obtain ⟨o1, g1⟩ := ho.stored (x * 8 + 4) (.int .u64 (word (e.2 ||| next) 0))
 obtain ⟨o2, g2⟩ := o1.stored (x * 8 + 4 + 1) (.int .u64 (word (e.2 ||| next) 1))
 obtain ⟨o3, g3⟩ := o2.stored (x * 8 + 4 + 2) (.int .u64 (word (e.2 ||| next) 2))
 obtain ⟨o4, g4⟩ := o3.stored (x * 8 + 4 + 3) (.int .u64 (word (e.2 ||| next) 3))
 have hgr := grown_trans g1 (grown_trans g2 (grown_trans g3 g4))
 have hl : (Rx.joinS next cur x).length = cur.length := by unfold Rx.joinS; simp
 refine ⟨⟨?_, h.tab.of_block hgr.size (hgr.block _ h.tab.lt (fun e2 => h.nt (by rw [Value.ownBlock]; exact e2.symm))), h.nt, by rw [hl]; exact h.len⟩, hgr⟩
 rw [cellsN_join cur next x e he, hl, hm]
 exact o4
set_option maxHeartbeats 4000000 in
theorem join_any (base : Nat) (v : Value) (n : Rx.Nt) (last next : Nat) (hl : ∀ i, i < 256 → last.testBit i = true → i < n.length) (hn : 0 < n.length) (w : World) (hN : NetR base w v n) :
  Calls Tryd.prog 40 #[v, setV last, setV next] w fun e w' => (∃ r, e = .returned r) ∧ NetR base w' v (Rx.joinN last next n) ∧ w.grownBy w' v.ownBlock := by
 obtain ⟨g, cap, rfl, hbg, hgs⟩ := hN.form hn
 have hvl : ∀ x, (Value.ownBlock (.slice (some ⟨g, 0, none⟩) n.length cap)) = some x → x < w.heap.size := fun x e => (hN.lt x e).2
 have hnl := hN.len
 refine (callsIn_wide (n := 9)).1 ?_
 refine callsIn_of_wp_marks Tryd.func40 rfl trivial ?_ rfl
 simp only [Tryd.ntmps40, List.size_toArray, List.length_cons, List.length_nil, Nat.reduceAdd, Nat.reduceSub, Array.replicate_succ, Array.replicate_zero, List.push_toArray, List.append_toArray, List.nil_append, List.cons_append]
 have HN := Lib.hid hN
 have HVL := Lib.hid hvl
 have HL := Lib.hid hl
 clear hN hvl hl
 unfold setV
 gi_wp2
 refine ⟨trivial, (all_in last _).mono ?_⟩
 rintro e w1 ⟨rfl, rfl⟩
 gi_wp2
 obtain ⟨W0, hW0⟩ : ∃ W0, ((((w.alloc (.cells #[.slice (some ⟨g, 0, none⟩) n.length cap] 49)).alloc (.cells #[.int .u64 (word last 0), .int .u64 (word last 1), .int .u64 (word last 2), .int .u64 (word last 3)] 45)).alloc (.cells #[.int .u64 (word next 0), .int .u64 (word next 1), .int .u64 (word next 2), .int .u64 (word next 3)] 45)).alloc (.cells #[.int .u64 (word last 0), .int .u64 (word last 1), .int .u64 (word last 2), .int .u64 (word last 3)] 45)) = W0 := ⟨_, rfl⟩
 have hlp : Below w.heap.size w W0 := by rw [← hW0]; go_grown
 have hsz : W0.heap.size = w.heap.size + 4 := by rw [← hW0]; simp
 have bn0 : At W0 w.heap.size [.slice (some ⟨g, 0, none⟩) n.length cap] := by rw [← hW0]; exact (((At.new _ _ _).alloc _).alloc _).alloc _
 have bx0 : At W0 (w.heap.size + 1 + 1) (wordsV next) := by
  rw [← hW0]
  have h := (At.new ((w.alloc (.cells #[.slice (some ⟨g, 0, none⟩) n.length cap] 49)).alloc (.cells #[.int .u64 (word last 0), .int .u64 (word last 1), .int .u64 (word last 2), .int .u64 (word last 3)] 45)) #[.int .u64 (word next 0), .int .u64 (word next 1), .int .u64 (word next 2), .int .u64 (word next 3)] 45).alloc (.cells #[.int .u64 (word last 0), .int .u64 (word last 1), .int .u64 (word last 2), .int .u64 (word last 3)] 45)
  simpa [wordsV] using h
 have bi0 : At W0 (w.heap.size + 1 + 1 + 1) (wordsV last) := by
  rw [← hW0]
  have h := At.new (((w.alloc (.cells #[.slice (some ⟨g, 0, none⟩) n.length cap] 49)).alloc (.cells #[.int .u64 (word last 0), .int .u64 (word last 1), .int .u64 (word last 2), .int .u64 (word last 3)] 45)).alloc (.cells #[.int .u64 (word next 0), .int .u64 (word next 1), .int .u64 (word next 2), .int .u64 (word next 3)] 45)) #[.int .u64 (word last 0), .int .u64 (word last 1), .int .u64 (word last 2), .int .u64 (word last 3)] 45
  simpa [wordsV] using h
 have hT0 := HN.out.tab.below hlp
 have htl := HN.out.tab.lt
 have hI0 : JI base w W0 (.slice (some ⟨g, 0, none⟩) n.length cap) n next [] W0 := ⟨Nat.le_refl _, HN.out.below hlp, bn0, bx0, below_grown hlp⟩
 rw [hW0]
 clear hW0
 refine wpIn_rangeFunc_ownH (F := Fence.wide) (n := 9) rfl (by omega) (gf := 52) (lb := #[.pointer (some ⟨w.heap.size + 1 + 1 + 1, 0, none⟩)]) rfl trivial (enters_of Tryd.func52 (by kernel_rfl) rfl)
  (encs := fun x : El last => #[.int .u8 (x.1 : Int)]) (Kp := KB) (all_stops last (w.heap.size + 1 + 1 + 1) W0 bi0 hT0) (fun h k => KB.trans h k) (kb_put (by omega)) (Below.refl _ _) (fun _ => rfl)
  (fun pre W => JI base w W0 (.slice (some ⟨g, 0, none⟩) n.length cap) n next (pre.map Subtype.val) W)
  (fun _ _ _ => False)
  (own_of_below (fun s X Y h hb => h.low (by omega) HVL.out (by omega) hb) (fun s X h => h.sz))
  (fun c s X Y row h _ _ => h) hI0
  (fun x a' W => a' = { tmps := #[.slice (some ⟨g, 0, none⟩) n.length cap, .agg #[.int .u64 (word last 0), .int .u64 (word last 1), .int .u64 (word last 2), .int .u64 (word last 3)], .agg #[.int .u64 (word next 0), .int .u64 (word next 1), .int .u64 (word next 2), .int .u64 (word next 3)], .pointer (some ⟨w.heap.size, 0, none⟩), .pointer (some ⟨w.heap.size + 1, 0, none⟩), .pointer (some ⟨w.heap.size + 1 + 1, 0, none⟩), .int .u8 (x.1 : Int), .agg #[.int .u64 (word last 0), .int .u64 (word last 1), .int .u64 (word last 2), .int .u64 (word last 3)], .func (.func 52) #[] #[.pointer (some ⟨w.heap.size + 1 + 1 + 1, 0, none⟩)], .int .u8 (x.1 : Int), undef, undef, undef, undef, undef, undef, undef, undef, undef, undef, undef], defers := [] })
  (fun x a' s X Y row h _ _ => h) ?assign ?body ?done ?stop
 case assign =>
  rintro l pre x W K hI hK
  gi_wp2
  exact hK _ _ (KeepsFrom.refl _ _) (KB.refl _) hI rfl
 case body =>
  rintro l pre x a' W hl hrec hI rfl hlen
  obtain ⟨x, hx1, hx2⟩ := x
  have hxn : x < n.length := HL.out x hx1 hx2
  have hcl := fold_joinS_length next (pre.map Subtype.val) n
  have hm1 : (pre ++ [(⟨x, hx1, hx2⟩ : El last)]).map Subtype.val = pre.map Subtype.val ++ [x] := by rw [List.map_append]; rfl
  have hfs : (pre.map Subtype.val ++ [x]).foldl (Rx.joinS next) n = Rx.joinS next ((pre.map Subtype.val).foldl (Rx.joinS next) n) x := by rw [List.foldl_append]; rfl
  obtain ⟨isz, inet, ibn, ibx, igr⟩ := hI
  generalize (pre.map Subtype.val).foldl (Rx.joinS next) n = cur at *
  obtain ⟨e, he⟩ : ∃ e, cur[x]? = some e := ⟨_, List.getElem?_eq_getElem (by omega)⟩
  have hgc := fun j (hj : j < 8) => (inet.own.cellAt' (j := x * 8 + j) (by omega)).trans (cellsN_get cur x j hj e he)
  have d0 := hgc 4 (by omega)
  have d1 := hgc 5 (by omega)
  have d2 := hgc 6 (by omega)
  have d3 := hgc 7 (by omega)
  simp only [nodeV, wordsV, List.cons_append, List.nil_append, List.getElem?_cons_succ, List.getElem?_cons_zero] at d0 d1 d2 d3
  have cn := ibn.cell 0 _ rfl
  have x0 := ibx.cell 0 _ rfl
  have x1 := ibx.cell 1 _ rfl
  have x2 := ibx.cell 2 _ rfl
  have x3 := ibx.cell 3 _ rfl
  have hb0 : (0 : Int) ≤ (x : Int) := by omega
  have hb1 : (x : Int) < (n.length : Int) := by omega
  have HI := Lib.hid inet
  have HG := Lib.hid igr
  have HF := Lib.hid hfs
  have HM := Lib.hid hm1
  have HE := Lib.hid he
  have HC := Lib.hid hcl
  clear hgc inet igr hfs hm1 he hcl
  gi_wp2
  refine region_anyM (S := fun u => Below W.heap.size W u) 11 (by kernel_rfl) (fun hS => ?_) ((Below.refl _ _).drew)
  refine' anyM_take (i := 0) (oi := ?oi0) (v := ?v0) [0, 9, 10, 11] (by kernel_rfl) ?hi0 (by kernel_rfl) (by kernel_rfl) (by kernel_rfl) (by kernel_rfl) (fun _ _ _ h => h) ?hy0 ?hab0 hS ?rest0
  case hi0 =>
   simp only [List.getElem?_toArray, List.getElem?_cons_zero]
   exact rfl
  case hy0 =>
   refine Or.inl ⟨by rfl, ?_⟩
   intro u hSw
   have k0 := below_cell cn hSw rfl
   clear hSw
   go_simp
   (try with_reducible rfl)
  case hab0 => exact fun _ => rfl
  (try simp only [Act.put, qd, qe, qf])
  refine' anyM_take (i := 1) (oi := ?oi1) (v := ?v1) [1, 9, 10, 11] (by kernel_rfl) ?hi1 (by kernel_rfl) (by kernel_rfl) (by kernel_rfl) (by kernel_rfl) (fun _ _ _ h => h) ?hy1 ?hab1 hS ?rest1
  case hi1 =>
   simp only [qa, qb, qc]
   exact rfl
  case hy1 =>
   refine Or.inl ⟨by rfl, ?_⟩
   intro u hSw
   clear hSw
   go_simp
   (try with_reducible rfl)
  case hab1 => exact fun _ => rfl
  (try simp only [Act.put, qd, qe, qf])
  refine' anyM_take (i := 2) (oi := ?oi2) (v := ?v2) [2, 4, 5, 6, 8, 11] (by kernel_rfl) ?hi2 (by kernel_rfl) (by kernel_rfl) (by kernel_rfl) (by kernel_rfl) (fun _ _ _ h => h) ?hy2 ?hab2 hS ?rest2
  case hi2 =>
   simp only [qa, qb, qc]
   exact rfl
  case hy2 =>
   refine Or.inl ⟨by rfl, ?_⟩
   intro u hSw
   have k0 := below_cell cn hSw rfl
   clear hSw
   go_simp
   (try with_reducible rfl)
  case hab2 => exact fun _ => rfl
  (try simp only [Act.put, qd, qe, qf])
  refine' anyM_take (i := 3) (oi := ?oi3) (v := ?v3) [3, 4, 5, 6, 8, 11] (by kernel_rfl) ?hi3 (by kernel_rfl) (by kernel_rfl) (by kernel_rfl) (by kernel_rfl) (fun _ _ _ h => h) ?hy3 ?hab3 hS ?rest3
  case hi3 =>
   simp only [qa, qb, qc]
   exact rfl
  case hy3 =>
   refine Or.inl ⟨by rfl, ?_⟩
   intro u hSw
   clear hSw
   go_simp
   (try with_reducible rfl)
  case hab3 => exact fun _ => rfl
  (try simp only [Act.put, qd, qe, qf])
  refine' anyM_take (i := 4) (oi := ?oi4) (v := ?v4) [4, 5, 6, 8, 11] (by kernel_rfl) ?hi4 (by kernel_rfl) (by kernel_rfl) (by kernel_rfl) (by kernel_rfl) (fun _ _ _ h => h) ?hy4 ?hab4 hS ?rest4
  case hi4 =>
   simp only [qa, qb, qc]
   exact rfl
  case hy4 =>
   refine Or.inl ⟨by rfl, ?_⟩
   intro u hSw
   clear hSw
   go_simp
   (try with_reducible rfl)
  case hab4 => exact fun _ => rfl
  (try simp only [Act.put, qd, qe, qf])
  refine' anyM_take (i := 5) (oi := ?oi5) (v := ?v5) [5, 6, 8, 11] (by kernel_rfl) ?hi5 (by kernel_rfl) (by kernel_rfl) (by kernel_rfl) (by kernel_rfl) (fun _ _ _ h => h) ?hy5 ?hab5 hS ?rest5
  case hi5 =>
   simp only [qa, qb, qc]
   exact rfl
  case hy5 =>
   refine Or.inl ⟨by rfl, ?_⟩
   intro u hSw
   clear hSw
   go_simp
   (try with_reducible rfl)
  case hab5 => exact fun _ => rfl
  (try simp only [Act.put, qd, qe, qf])
  refine' anyM_take (i := 6) (oi := ?oi6) (v := ?v6) [6, 8, 11] (by kernel_rfl) ?hi6 (by kernel_rfl) (by kernel_rfl) (by kernel_rfl) (by kernel_rfl) (fun _ _ _ h => h) ?hy6 ?hab6 hS ?rest6
  case hi6 =>
   simp only [qa, qb, qc]
   exact rfl
  case hy6 =>
   refine Or.inl ⟨by rfl, ?_⟩
   intro u hSw
   have k0 := below_cell d0 hSw rfl; have k1 := below_cell d1 hSw rfl; have k2 := below_cell d2 hSw rfl; have k3 := below_cell d3 hSw rfl
   clear hSw
   go_simp
   (try with_reducible rfl)
  case hab6 => exact fun _ => rfl
  (try simp only [Act.put, qd, qe, qf])
  refine' anyM_take (i := 7) (oi := ?oi7) (v := ?v7) [7, 8, 11] (by kernel_rfl) ?hi7 (by kernel_rfl) (by kernel_rfl) (by kernel_rfl) (by kernel_rfl) (fun _ _ _ h => h) ?hy7 ?hab7 hS ?rest7
  case hi7 =>
   simp only [qa, qb, qc]
   exact rfl
  case hy7 =>
   refine Or.inl ⟨by rfl, ?_⟩
   intro u hSw
   have k0 := below_cell x0 hSw rfl; have k1 := below_cell x1 hSw rfl; have k2 := below_cell x2 hSw rfl; have k3 := below_cell x3 hSw rfl
   clear hSw
   go_simp
   (try with_reducible rfl)
  case hab7 => exact fun _ => rfl
  (try simp only [Act.put, qd, qe, qf])
  refine' anyM_only (i := 8) (o := ?oo8) (by kernel_rfl) (by decide) ?ho8 ?hw8 (fun K hK => ?st8)
  case ho8 =>
   simp only [qa, qb, qc]
   exact rfl
  case hw8 => rfl
  go_simp
  refine ⟨trivial, ?_⟩
  gi_at_call 41
  refine (CallsIn.inRound l (callsIn_wide.2 (sor_any e.2 next _))).mono ?_
  rintro e1 w1 ⟨rfl, hb1⟩
  unfold setV
  have hS := below_then hS hb1
  clear hb1
  go_simp
  refine hK _ _ hS ?_
  clear hK K
  (try simp only [Act.put, qd, qe, qf])
  refine' anyM_take (i := 9) (oi := ?oi9) (v := ?v9) [9, 10, 11] (by kernel_rfl) ?hi9 (by kernel_rfl) (by kernel_rfl) (by kernel_rfl) (by kernel_rfl) (fun _ _ _ h => h) ?hy9 ?hab9 hS ?rest9
  case hi9 =>
   simp only [qa, qb, qc]
   exact rfl
  case hy9 =>
   refine Or.inl ⟨by rfl, ?_⟩
   intro u hSw
   clear hSw
   go_simp
   (try with_reducible rfl)
  case hab9 => exact fun _ => rfl
  (try simp only [Act.put, qd, qe, qf])
  refine' anyM_take (i := 10) (oi := ?oi10) (v := ?v10) [10, 11] (by kernel_rfl) ?hi10 (by kernel_rfl) (by kernel_rfl) (by kernel_rfl) (by kernel_rfl) (fun _ _ _ h => h) ?hy10 ?hab10 hS ?rest10
  case hi10 =>
   simp only [qa, qb, qc]
   exact rfl
  case hy10 =>
   refine Or.inl ⟨by rfl, ?_⟩
   intro u hSw
   clear hSw
   go_simp
   (try with_reducible rfl)
  case hab10 => exact fun _ => rfl
  (try simp only [Act.put, qd, qe, qf])
  have inet := HI.out.below hS
  have hgc := fun j (hj : j < 8) => (inet.own.cellAt' (j := x * 8 + j) (by rw [HC.out]; omega)).trans (cellsN_get cur x j hj e HE.out)
  have k0 := hgc 4 (by omega)
  have k1 := hgc 5 (by omega)
  have k2 := hgc 6 (by omega)
  have k3 := hgc 7 (by omega)
  simp only [nodeV, wordsV, List.cons_append, List.nil_append, List.getElem?_cons_succ, List.getElem?_cons_zero] at k0 k1 k2 k3
  have z0 := inet.own.frozenAt' (x * 8 + 4)
  have z1 := inet.own.frozenAt' (x * 8 + 5)
  have z2 := inet.own.frozenAt' (x * 8 + 6)
  have z3 := inet.own.frozenAt' (x * 8 + 7)
  have gw := (inet.lt g rfl).2
  clear hgc inet
  refine' anyM_last (o := ?oo11) (by kernel_rfl) ?ho11 ?hw11 (fun K hK => ?st11)
  case ho11 =>
   simp only [qa, qb, qc]
   exact rfl
  case hw11 => rfl
  go_simp
  refine hK _ _ ?_
  clear hK K
  refine anyIn_done (by kernel_rfl) ?_ _
  gi_wp2
  have hnj := net_joined (next := next) (HI.out.below hS) HC.out HE.out
  obtain ⟨hn1, hg1⟩ := hnj
  have hgr := grown_trans (below_grown (row := some g) hS) hg1
  refine ⟨⟨hgr.size, fun k o hk h0 ho => (hgr.block k (Array.getElem?_eq_some_iff.1 h0).1 (fun e2 => by cases e2; omega)).trans h0⟩, ⟨hgr.size, hgr.block _ (by omega) (fun e2 => HI.out.nt (by rw [Value.ownBlock]; exact e2.symm))⟩, ⟨Nat.le_trans isz hgr.size, ?_, grown_at hgr ibn (fun e2 => by cases e2; omega), grown_at hgr ibx (fun e2 => by cases e2; omega), grown_trans HG.out hgr⟩⟩
  rw [HM.out, HF.out]
  exact hn1

 case done =>
  rintro D ys V hD hys hI hK
  have HI := Lib.hid hI
  have HY := Lib.hid hys
  clear hI hys
  gi_wp2
  refine ⟨by simp, .inl ⟨_, _, rfl, run_takeDeferred hK, ?_⟩⟩
  refine ⟨_, results_none rfl _ _ _, ⟨_, rfl⟩, ?_, ?_⟩
  ·
   have e := Rx.join_fold last next n (by omega)
   rw [HY.out] at HI
   rw [← e]
   exact HI.out.net.same (by simp) (fun x hx => World.putObj_heap_other (by have := HVL.out x hx; omega)) (World.putObj_heap_other (by omega))
  ·
   exact ⟨HI.out.gr.os, HI.out.gr.tape, HI.out.gr.output, by simpa using HI.out.gr.size, fun k hk hr => (World.putObj_heap_other (by omega)).trans (HI.out.gr.block k hk hr)⟩
 case stop =>
  rintro D c pre V hD hs hI hK
  exact hI.elim
end Go.Proofs.YtcfdpbbpdnpnnaaDoor
