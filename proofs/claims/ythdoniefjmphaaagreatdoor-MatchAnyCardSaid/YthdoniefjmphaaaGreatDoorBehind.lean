/- regex: net.behind. -/
import Derived.Test.YthdoniefjmphaaaGreatDoorFrm
namespace Go.Proofs.YthdoniefjmphaaaGreatDoor
open Go Go.Proofs Go.RowKit Go.Shelf
set_option maxRecDepth 100000
attribute [local go_sem] Oper.semAt_some
theorem bhas_w (m x : Nat) (hx : x < 256) (w : World) :
  Calls Tryz.prog 113 #[.agg #[.int .u64 (word m 0), .int .u64 (word m 1), .int .u64 (word m 2), .int .u64 (word m 3)], .int .u8 (x : Int)] w fun e w' => e = .returned (.bool (m.testBit x)) ∧ Below w.heap.size w w' := bhas_any m x hx w
structure BI (base : Nat) (w W0 : World) (v : Value) (n : Rx.Nt) (c : Nat) (acc : Nat) (W : World) : Prop where
 sz : W0.heap.size ≤ W.heap.size
 net : NetR base W v n
 bn : At W w.heap.size [v]
 bc : At W (w.heap.size + 1 + 1) [.int .u8 (c : Int)]
 br : At W (w.heap.size + 1 + 1 + 1) [.int .u64 0, .int .u64 0, .int .u64 0, .int .u64 0]
 bx : At W (w.heap.size + 1 + 1 + 1 + 1) [.int .u64 (word (acc) 0), .int .u64 (word (acc) 1), .int .u64 (word (acc) 2), .int .u64 (word (acc) 3)]
 gr : Below w.heap.size w W
theorem BI.low {base : Nat} {w W0 : World} {v : Value} {n : Rx.Nt} {c acc : Nat} {W W' : World} (hz : w.heap.size + 1 + 1 + 1 + 1 < W0.heap.size) (hv : ∀ g, v.ownBlock = some g → g < w.heap.size) (ht : 3 < w.heap.size) (h : BI base w W0 v n c acc W) (hb : Below W0.heap.size W W') : BI base w W0 v n c acc W' :=
 ⟨Nat.le_trans h.sz hb.size, h.net.same hb.size (fun g e => hb.block g (by have := hv g e; omega)) (hb.block _ (by omega)), h.bn.low hb (by omega), h.bc.low hb (by omega), h.br.low hb (by omega), h.bx.low hb (by omega), h.gr.trans (hb.mono (by omega))⟩
theorem at_put {w : World} {b D : Nat} {l : List Value} (h : At w b l) (hne : b ≠ D) (o : Obj) : At (w.putObj D o) b l := by
 have hb : (w.putObj D o).heap[b]? = w.heap[b]? := World.putObj_heap_other (fun e => hne (by omega));exact ⟨by simpa using h.lt, fun j v hj => (World.cell?_of_block (a := ⟨b, j, none⟩) hb).trans (h.cell j v hj), fun j v hj => (World.frozen?_of_block (a := ⟨b, j, none⟩) hb).trans (h.free j v hj)⟩
theorem belowK_b {w : World} {n₀ : Nat} (hn : n₀ ≤ w.heap.size) : ∀ (W : World) (l : Nat) (o o' : Obj), w.heap.size ≤ l → W.heap[l]? = some o → o.isCells = false → o.isWalk = false → Below n₀ W (W.putObj l o') :=
 fun W l o o' hl _ _ _ => ⟨rfl, rfl, rfl, by simp, fun k hk => World.putObj_heap_other (by omega)⟩
theorem set4_block {X : World} {q k : Nat} {v0 v1 v2 v3 : Value} (h : k ≠ q) : ((((X.setCell ⟨q, 0, none⟩ v0).setCell ⟨q, 1, none⟩ v1).setCell ⟨q, 2, none⟩ v2).setCell ⟨q, 3, none⟩ v3).heap[k]? = X.heap[k]? := by
 rw [Below.heap_setCell _ _ _ _ h, Below.heap_setCell _ _ _ _ h, Below.heap_setCell _ _ _ _ h, Below.heap_setCell _ _ _ _ h]
set_option maxHeartbeats 4000000 in
theorem behind_any (base g cap : Nat) (n : Rx.Nt) (now : Nat) (cb : UInt8) (hl : ∀ i, i < 256 → now.testBit i = true → i < n.length) (w : World) (hN : NetR base w (.slice (some ⟨g, 0, none⟩) n.length cap) n) :
  Calls Tryz.prog 103 #[.slice (some ⟨g, 0, none⟩) n.length cap, .agg #[.int .u64 (word (now) 0), .int .u64 (word (now) 1), .int .u64 (word (now) 2), .int .u64 (word (now) 3)], .int .u8 (cb.toNat : Int)] w fun e w' => e = .returned (.agg #[.int .u64 (word (Rx.behindN n now cb) 0), .int .u64 (word (Rx.behindN n now cb) 1), .int .u64 (word (Rx.behindN n now cb) 2), .int .u64 (word (Rx.behindN n now cb) 3)]) ∧ Below w.heap.size w w' := by
 have hgs := (hN.lt g rfl).2;have hvl : ∀ x, (Value.ownBlock (.slice (some ⟨g, 0, none⟩) n.length cap)) = some x → x < w.heap.size := fun x e => (hN.lt x e).2
 have hnl := hN.len;have hc := cb.toNat_lt;have hres : ∀ ys : List Nat, ys = Rx.elems now → ys.foldl (Rx.behindS n cb) 0 = Rx.behindN n now cb := fun ys e => by rw [e]; rfl
 have hstep : ∀ (acc x : Nat) (e : Nat × Nat), n[x]? = some e → Rx.behindS n cb acc x = if e.1.testBit cb.toNat then acc ||| e.2 else acc := fun acc x e he => by unfold Rx.behindS; rw [he]
 have HRES := Lib.hid hres;have HST := Lib.hid hstep;clear hres hstep;generalize Rx.behindN n now cb = res at *;generalize Rx.behindS n cb = stp at *;generalize cb.toNat = c at *;refine (callsIn_wide (n := 9)).1 ?_;refine callsIn_of_wp_marks Tryz.func103 rfl trivial ?_ rfl;simp only [Tryz.ntmps103, List.size_toArray, List.length_cons, List.length_nil, Nat.reduceAdd, Nat.reduceSub, Array.replicate_succ, Array.replicate_zero, List.push_toArray, List.append_toArray, List.nil_append, List.cons_append];have HN := Lib.hid hN;have HVL := Lib.hid hvl;have HL := Lib.hid hl;clear hN hvl hl
 gi_wp2
 refine ⟨trivial, (all_in now _).mono ?_⟩;rintro e w1 ⟨rfl, rfl⟩
 gi_wp2
 obtain ⟨W0, hW0⟩ : ∃ W0, ((((((w.alloc (.cells #[.slice (some ⟨g, 0, none⟩) n.length cap] 108)).alloc (.cells #[.int .u64 (word (now) 0), .int .u64 (word (now) 1), .int .u64 (word (now) 2), .int .u64 (word (now) 3)] 104)).alloc (.cells #[.int .u8 (c : Int)] 5)).alloc (.cells #[.int .u64 0, .int .u64 0, .int .u64 0, .int .u64 0] 104)).alloc (.cells #[.int .u64 0, .int .u64 0, .int .u64 0, .int .u64 0] 104)).alloc (.cells #[.int .u64 (word (now) 0), .int .u64 (word (now) 1), .int .u64 (word (now) 2), .int .u64 (word (now) 3)] 104)) = W0 := ⟨_, rfl⟩;have hlp : Below w.heap.size w W0 := by rw [← hW0]; go_grown
 have hsz : W0.heap.size = w.heap.size + 6 := by rw [← hW0]; simp
 have bn0 : At W0 w.heap.size [.slice (some ⟨g, 0, none⟩) n.length cap] := by rw [← hW0]; exact (((((At.new _ _ _).alloc _).alloc _).alloc _).alloc _).alloc _
 have bc0 : At W0 (w.heap.size + 1 + 1) [.int .u8 (c : Int)] := by
  rw [← hW0];have h := (((At.new ((w.alloc (.cells #[.slice (some ⟨g, 0, none⟩) n.length cap] 108)).alloc (.cells #[.int .u64 (word (now) 0), .int .u64 (word (now) 1), .int .u64 (word (now) 2), .int .u64 (word (now) 3)] 104)) #[.int .u8 (c : Int)] 5).alloc (.cells #[.int .u64 0, .int .u64 0, .int .u64 0, .int .u64 0] 104)).alloc (.cells #[.int .u64 0, .int .u64 0, .int .u64 0, .int .u64 0] 104)).alloc (.cells #[.int .u64 (word (now) 0), .int .u64 (word (now) 1), .int .u64 (word (now) 2), .int .u64 (word (now) 3)] 104);simpa using h
 have br0 : At W0 (w.heap.size + 1 + 1 + 1) [.int .u64 0, .int .u64 0, .int .u64 0, .int .u64 0] := by
  rw [← hW0];have h := ((At.new (((w.alloc (.cells #[.slice (some ⟨g, 0, none⟩) n.length cap] 108)).alloc (.cells #[.int .u64 (word (now) 0), .int .u64 (word (now) 1), .int .u64 (word (now) 2), .int .u64 (word (now) 3)] 104)).alloc (.cells #[.int .u8 (c : Int)] 5)) #[.int .u64 0, .int .u64 0, .int .u64 0, .int .u64 0] 104).alloc (.cells #[.int .u64 0, .int .u64 0, .int .u64 0, .int .u64 0] 104)).alloc (.cells #[.int .u64 (word (now) 0), .int .u64 (word (now) 1), .int .u64 (word (now) 2), .int .u64 (word (now) 3)] 104);simpa using h
 have bx0 : At W0 (w.heap.size + 1 + 1 + 1 + 1) [.int .u64 (word (0) 0), .int .u64 (word (0) 1), .int .u64 (word (0) 2), .int .u64 (word (0) 3)] := by
  simp only [word_zero];rw [← hW0];have h := (At.new ((((w.alloc (.cells #[.slice (some ⟨g, 0, none⟩) n.length cap] 108)).alloc (.cells #[.int .u64 (word (now) 0), .int .u64 (word (now) 1), .int .u64 (word (now) 2), .int .u64 (word (now) 3)] 104)).alloc (.cells #[.int .u8 (c : Int)] 5)).alloc (.cells #[.int .u64 0, .int .u64 0, .int .u64 0, .int .u64 0] 104)) #[.int .u64 0, .int .u64 0, .int .u64 0, .int .u64 0] 104).alloc (.cells #[.int .u64 (word (now) 0), .int .u64 (word (now) 1), .int .u64 (word (now) 2), .int .u64 (word (now) 3)] 104);simpa using h
 have bi0 : At W0 (w.heap.size + 1 + 1 + 1 + 1 + 1) (wordsV now) := by
  rw [← hW0];have h := At.new (((((w.alloc (.cells #[.slice (some ⟨g, 0, none⟩) n.length cap] 108)).alloc (.cells #[.int .u64 (word (now) 0), .int .u64 (word (now) 1), .int .u64 (word (now) 2), .int .u64 (word (now) 3)] 104)).alloc (.cells #[.int .u8 (c : Int)] 5)).alloc (.cells #[.int .u64 0, .int .u64 0, .int .u64 0, .int .u64 0] 104)).alloc (.cells #[.int .u64 0, .int .u64 0, .int .u64 0, .int .u64 0] 104)) #[.int .u64 (word (now) 0), .int .u64 (word (now) 1), .int .u64 (word (now) 2), .int .u64 (word (now) 3)] 104;simpa [wordsV] using h
 have hT0 := HN.out.tab.below hlp;have htl := HN.out.tab.lt;have hI0 : BI base w W0 (.slice (some ⟨g, 0, none⟩) n.length cap) n c 0 W0 := ⟨Nat.le_refl _, HN.out.below hlp, bn0, bc0, br0, bx0, hlp⟩;rw [hW0];clear hW0;refine wpIn_rangeFunc_ownH (F := Fence.wide) (n := 9) rfl (by omega) (gf := 121) (lb := #[.pointer (some ⟨w.heap.size + 1 + 1 + 1 + 1 + 1, 0, none⟩)]) rfl trivial (enters_of Tryz.func121 (by kernel_rfl) rfl)
  (encs := fun x : El now => #[.int .u8 (x.1 : Int)]) (Kp := KB) (all_stops now (w.heap.size + 1 + 1 + 1 + 1 + 1) W0 bi0 hT0) (fun h k => KB.trans h k) (kb_put (by omega)) (Below.refl _ _) (fun _ => rfl)
  (fun pre W => BI base w W0 (.slice (some ⟨g, 0, none⟩) n.length cap) n c ((pre.map Subtype.val).foldl stp 0) W)
  (fun _ _ _ => False)
  (own_of_below (fun s X Y h hb => h.low (by omega) HVL.out (by omega) hb) (fun s X h => h.sz))
  (fun c s X Y row h _ _ => h) hI0
  (fun x a' W => a' = { tmps := #[.slice (some ⟨g, 0, none⟩) n.length cap, .agg #[.int .u64 (word (now) 0), .int .u64 (word (now) 1), .int .u64 (word (now) 2), .int .u64 (word (now) 3)], .int .u8 (c : Int), .pointer (some ⟨w.heap.size, 0, none⟩), .pointer (some ⟨w.heap.size + 1, 0, none⟩), .pointer (some ⟨w.heap.size + 1 + 1, 0, none⟩), .pointer (some ⟨w.heap.size + 1 + 1 + 1, 0, none⟩), .pointer (some ⟨w.heap.size + 1 + 1 + 1 + 1, 0, none⟩), .int .u8 (x.1 : Int), .agg #[.int .u64 (word (now) 0), .int .u64 (word (now) 1), .int .u64 (word (now) 2), .int .u64 (word (now) 3)], .func (.func 121) #[] #[.pointer (some ⟨w.heap.size + 1 + 1 + 1 + 1 + 1, 0, none⟩)], .int .u8 (x.1 : Int), undef, undef, undef, undef, undef, undef, undef, undef, undef, undef, undef, undef, undef, undef, undef], defers := [] })
  (fun x a' s X Y row h _ _ => h) ?assign ?body ?done ?stop
 case assign =>
  rintro l pre x W K hI hK
  gi_wp2
  exact hK _ _ (KeepsFrom.refl _ _) (KB.refl _) hI rfl
 case body =>
  rintro l pre x a' W hl hrec hI rfl hlen;obtain ⟨x, hx1, hx2⟩ := x;have hxn : x < n.length := HL.out x hx1 hx2;have hm1 : ((pre ++ [(⟨x, hx1, hx2⟩ : El now)]).map Subtype.val).foldl stp 0 = stp ((pre.map Subtype.val).foldl stp 0) x := by rw [List.map_append, List.foldl_append]; rfl
  obtain ⟨isz, inet, ibn, ibc, ibr, ibx, igr⟩ := hI;generalize (pre.map Subtype.val).foldl stp 0 = acc at *;obtain ⟨e, he⟩ : ∃ e, n[x]? = some e := ⟨_, List.getElem?_eq_getElem hxn⟩;have hgc := fun j (hj : j < 8) => (inet.own.cellAt' (j := x * 8 + j) (by omega)).trans (cellsN_get n x j hj e he)
  have t0 := hgc 0 (by omega);have t1 := hgc 1 (by omega);have t2 := hgc 2 (by omega);have t3 := hgc 3 (by omega);have d0 := hgc 4 (by omega);have d1 := hgc 5 (by omega);have d2 := hgc 6 (by omega);have d3 := hgc 7 (by omega);simp only [nodeV, wordsV, List.cons_append, List.nil_append, List.getElem?_cons_succ, List.getElem?_cons_zero, Nat.add_zero] at t0 t1 t2 t3 d0 d1 d2 d3;have cn := ibn.cell 0 _ rfl;have cc := ibc.cell 0 _ rfl;have a0 := ibx.cell 0 _ rfl;have a1 := ibx.cell 1 _ rfl;have a2 := ibx.cell 2 _ rfl;have a3 := ibx.cell 3 _ rfl;have hb0 : (0 : Int) ≤ (x : Int) := by omega
  have hb1 : (x : Int) < (n.length : Int) := by omega
  have hst := HST.out acc x e he;have HI := Lib.hid inet;have HM := Lib.hid hm1;clear hgc inet hm1 he HST;cases hbit : e.1.testBit c
  ·
   rw [hbit, if_neg (by simp)] at hst;have HS2 := Lib.hid hst;have HB2 := Lib.hid hbit;clear hst hbit
   gi_wp2
   refine region_anyM (S := fun u => Below W.heap.size W u) 6 (by kernel_rfl) (fun hS => ?_) ((Below.refl _ _).drew);refine' anyM_take (i := 0) (oi := ?oi0a) (v := ?v0a) [0, 2, 3, 4, 6] (by kernel_rfl) ?hi0a (by kernel_rfl) (by kernel_rfl) (by kernel_rfl) (by kernel_rfl) (fun _ _ _ h => h) ?hy0a ?hab0a hS ?rest0a
   case hi0a =>
    simp only [qa, qb, qc];exact rfl
   case hy0a =>
    refine Or.inl ⟨by rfl, ?_⟩;intro u hSw;have k0 := below_cell cn hSw rfl;clear hSw;go_simp
    (try with_reducible rfl)
   case hab0a => exact fun _ => rfl
   (try simp only [Act.put, qd, qe, qf])
   refine' anyM_take (i := 1) (oi := ?oi1a) (v := ?v1a) [1, 2, 3, 4, 6] (by kernel_rfl) ?hi1a (by kernel_rfl) (by kernel_rfl) (by kernel_rfl) (by kernel_rfl) (fun _ _ _ h => h) ?hy1a ?hab1a hS ?rest1a
   case hi1a =>
    simp only [qa, qb, qc];exact rfl
   case hy1a =>
    refine Or.inl ⟨by rfl, ?_⟩;intro u hSw;clear hSw;go_simp
    (try with_reducible rfl)
   case hab1a => exact fun _ => rfl
   (try simp only [Act.put, qd, qe, qf])
   refine' anyM_take (i := 2) (oi := ?oi2a) (v := ?v2a) [2, 3, 4, 6] (by kernel_rfl) ?hi2a (by kernel_rfl) (by kernel_rfl) (by kernel_rfl) (by kernel_rfl) (fun _ _ _ h => h) ?hy2a ?hab2a hS ?rest2a
   case hi2a =>
    simp only [qa, qb, qc];exact rfl
   case hy2a =>
    refine Or.inl ⟨by rfl, ?_⟩;intro u hSw;clear hSw;go_simp
    (try with_reducible rfl)
   case hab2a => exact fun _ => rfl
   (try simp only [Act.put, qd, qe, qf])
   refine' anyM_take (i := 3) (oi := ?oi3a) (v := ?v3a) [3, 4, 6] (by kernel_rfl) ?hi3a (by kernel_rfl) (by kernel_rfl) (by kernel_rfl) (by kernel_rfl) (fun _ _ _ h => h) ?hy3a ?hab3a hS ?rest3a
   case hi3a =>
    simp only [qa, qb, qc];exact rfl
   case hy3a =>
    refine Or.inl ⟨by rfl, ?_⟩;intro u hSw;clear hSw;go_simp
    (try with_reducible rfl)
   case hab3a => exact fun _ => rfl
   (try simp only [Act.put, qd, qe, qf])
   refine' anyM_take (i := 4) (oi := ?oi4a) (v := ?v4a) [4, 6] (by kernel_rfl) ?hi4a (by kernel_rfl) (by kernel_rfl) (by kernel_rfl) (by kernel_rfl) (fun _ _ _ h => h) ?hy4a ?hab4a hS ?rest4a
   case hi4a =>
    simp only [qa, qb, qc];exact rfl
   case hy4a =>
    refine Or.inl ⟨by rfl, ?_⟩;intro u hSw;have k0 := below_cell t0 hSw rfl; have k1 := below_cell t1 hSw rfl; have k2 := below_cell t2 hSw rfl; have k3 := below_cell t3 hSw rfl;clear hSw;go_simp
    (try with_reducible rfl)
   case hab4a => exact fun _ => rfl
   (try simp only [Act.put, qd, qe, qf])
   refine' anyM_take (i := 5) (oi := ?oi5a) (v := ?v5a) [5, 6] (by kernel_rfl) ?hi5a (by kernel_rfl) (by kernel_rfl) (by kernel_rfl) (by kernel_rfl) (fun _ _ _ h => h) ?hy5a ?hab5a hS ?rest5a
   case hi5a =>
    simp only [qa, qb, qc];exact rfl
   case hy5a =>
    refine Or.inl ⟨by rfl, ?_⟩;intro u hSw;have k0 := below_cell cc hSw rfl;clear hSw;go_simp
    (try with_reducible rfl)
   case hab5a => exact fun _ => rfl
   (try simp only [Act.put, qd, qe, qf])
   refine' anyM_last (o := ?oo6a) (by kernel_rfl) ?ho6a ?hw6a (fun K hK => ?st6a)
   case ho6a =>
    simp only [qa, qb, qc];exact rfl
   case hw6a => rfl
   go_simp
   refine ⟨trivial, ?_⟩
   gi_at_call 113
   refine (CallsIn.inRound l (callsIn_wide.2 (bhas_w e.1 c hc _))).mono ?_;rintro e1 w1 ⟨rfl, hb1⟩;have hS1 := below_then ((Below.refl W.heap.size W).drew) hb1;clear hb1 hS;go_simp
   refine hK _ _ ?_;clear hK K;refine anyIn_done (by kernel_rfl) ?_ _;rw [HB2.out]
   gi_wp2
   refine ⟨⟨hS1.size, fun k o hk h0 ho => (hS1.block k (Array.getElem?_eq_some_iff.1 h0).1).trans h0⟩, ⟨hS1.size, hS1.block _ (by omega)⟩, ?_⟩
   (try dsimp only)
   rw [HM.out, HS2.out];exact ⟨Nat.le_trans isz hS1.size, HI.out.below hS1, ibn.below hS1, ibc.below hS1, ibr.below hS1, ibx.below hS1, igr.trans (hS1.mono (by omega))⟩
  ·
   rw [hbit, if_pos rfl] at hst;have HS2 := Lib.hid hst;have HB2 := Lib.hid hbit;clear hst hbit
   gi_wp2
   refine region_anyM (S := fun u => Below W.heap.size W u) 6 (by kernel_rfl) (fun hS => ?_) ((Below.refl _ _).drew);refine' anyM_take (i := 0) (oi := ?oi0b) (v := ?v0b) [0, 2, 3, 4, 6] (by kernel_rfl) ?hi0b (by kernel_rfl) (by kernel_rfl) (by kernel_rfl) (by kernel_rfl) (fun _ _ _ h => h) ?hy0b ?hab0b hS ?rest0b
   case hi0b =>
    simp only [qa, qb, qc];exact rfl
   case hy0b =>
    refine Or.inl ⟨by rfl, ?_⟩;intro u hSw;have k0 := below_cell cn hSw rfl;clear hSw;go_simp
    (try with_reducible rfl)
   case hab0b => exact fun _ => rfl
   (try simp only [Act.put, qd, qe, qf])
   refine' anyM_take (i := 1) (oi := ?oi1b) (v := ?v1b) [1, 2, 3, 4, 6] (by kernel_rfl) ?hi1b (by kernel_rfl) (by kernel_rfl) (by kernel_rfl) (by kernel_rfl) (fun _ _ _ h => h) ?hy1b ?hab1b hS ?rest1b
   case hi1b =>
    simp only [qa, qb, qc];exact rfl
   case hy1b =>
    refine Or.inl ⟨by rfl, ?_⟩;intro u hSw;clear hSw;go_simp
    (try with_reducible rfl)
   case hab1b => exact fun _ => rfl
   (try simp only [Act.put, qd, qe, qf])
   refine' anyM_take (i := 2) (oi := ?oi2b) (v := ?v2b) [2, 3, 4, 6] (by kernel_rfl) ?hi2b (by kernel_rfl) (by kernel_rfl) (by kernel_rfl) (by kernel_rfl) (fun _ _ _ h => h) ?hy2b ?hab2b hS ?rest2b
   case hi2b =>
    simp only [qa, qb, qc];exact rfl
   case hy2b =>
    refine Or.inl ⟨by rfl, ?_⟩;intro u hSw;clear hSw;go_simp
    (try with_reducible rfl)
   case hab2b => exact fun _ => rfl
   (try simp only [Act.put, qd, qe, qf])
   refine' anyM_take (i := 3) (oi := ?oi3b) (v := ?v3b) [3, 4, 6] (by kernel_rfl) ?hi3b (by kernel_rfl) (by kernel_rfl) (by kernel_rfl) (by kernel_rfl) (fun _ _ _ h => h) ?hy3b ?hab3b hS ?rest3b
   case hi3b =>
    simp only [qa, qb, qc];exact rfl
   case hy3b =>
    refine Or.inl ⟨by rfl, ?_⟩;intro u hSw;clear hSw;go_simp
    (try with_reducible rfl)
   case hab3b => exact fun _ => rfl
   (try simp only [Act.put, qd, qe, qf])
   refine' anyM_take (i := 4) (oi := ?oi4b) (v := ?v4b) [4, 6] (by kernel_rfl) ?hi4b (by kernel_rfl) (by kernel_rfl) (by kernel_rfl) (by kernel_rfl) (fun _ _ _ h => h) ?hy4b ?hab4b hS ?rest4b
   case hi4b =>
    simp only [qa, qb, qc];exact rfl
   case hy4b =>
    refine Or.inl ⟨by rfl, ?_⟩;intro u hSw;have k0 := below_cell t0 hSw rfl; have k1 := below_cell t1 hSw rfl; have k2 := below_cell t2 hSw rfl; have k3 := below_cell t3 hSw rfl;clear hSw;go_simp
    (try with_reducible rfl)
   case hab4b => exact fun _ => rfl
   (try simp only [Act.put, qd, qe, qf])
   refine' anyM_take (i := 5) (oi := ?oi5b) (v := ?v5b) [5, 6] (by kernel_rfl) ?hi5b (by kernel_rfl) (by kernel_rfl) (by kernel_rfl) (by kernel_rfl) (fun _ _ _ h => h) ?hy5b ?hab5b hS ?rest5b
   case hi5b =>
    simp only [qa, qb, qc];exact rfl
   case hy5b =>
    refine Or.inl ⟨by rfl, ?_⟩;intro u hSw;have k0 := below_cell cc hSw rfl;clear hSw;go_simp
    (try with_reducible rfl)
   case hab5b => exact fun _ => rfl
   (try simp only [Act.put, qd, qe, qf])
   refine' anyM_last (o := ?oo6b) (by kernel_rfl) ?ho6b ?hw6b (fun K hK => ?st6b)
   case ho6b =>
    simp only [qa, qb, qc];exact rfl
   case hw6b => rfl
   go_simp
   refine ⟨trivial, ?_⟩
   gi_at_call 113
   refine (CallsIn.inRound l (callsIn_wide.2 (bhas_w e.1 c hc _))).mono ?_;rintro e1 w1 ⟨rfl, hb1⟩;have hS1 := below_then ((Below.refl W.heap.size W).drew) hb1;clear hb1 hS;go_simp
   refine hK _ _ ?_;clear hK K;refine anyIn_done (by kernel_rfl) ?_ _;rw [HB2.out];have HI2 := Lib.hid (HI.out.below hS1);have ibn2 := ibn.below hS1;have ibc2 := ibc.below hS1;have ibr2 := ibr.below hS1;have ibx2 := ibx.below hS1;have igr2 := igr.trans (hS1.mono (by omega));have cn := below_cell cn hS1 rfl;have a0 := below_cell a0 hS1 rfl;have a1 := below_cell a1 hS1 rfl;have a2 := below_cell a2 hS1 rfl;have a3 := below_cell a3 hS1 rfl;have d0 := below_cell d0 hS1 rfl;have d1 := below_cell d1 hS1 rfl;have d2 := below_cell d2 hS1 rfl;have d3 := below_cell d3 hS1 rfl
   gi_wp2
   refine region_anyM (S := fun u => Below w1.heap.size w1 u) 7 (by kernel_rfl) (fun hS => ?_) ((Below.refl _ _).drew);refine' anyM_take (i := 0) (oi := ?oi0q) (v := ?v0q) [0, 6, 7] (by kernel_rfl) ?hi0q (by kernel_rfl) (by kernel_rfl) (by kernel_rfl) (by kernel_rfl) (fun _ _ _ h => h) ?hy0q ?hab0q hS ?rest0q
   case hi0q =>
    simp only [qa, qb, qc];exact rfl
   case hy0q =>
    refine Or.inl ⟨by rfl, ?_⟩;intro u hSw;have k0 := below_cell a0 hSw rfl; have k1 := below_cell a1 hSw rfl; have k2 := below_cell a2 hSw rfl; have k3 := below_cell a3 hSw rfl;clear hSw;go_simp
    (try with_reducible rfl)
   case hab0q => exact fun _ => rfl
   (try simp only [Act.put, qd, qe, qf])
   refine' anyM_take (i := 1) (oi := ?oi1q) (v := ?v1q) [1, 3, 4, 5, 6, 7] (by kernel_rfl) ?hi1q (by kernel_rfl) (by kernel_rfl) (by kernel_rfl) (by kernel_rfl) (fun _ _ _ h => h) ?hy1q ?hab1q hS ?rest1q
   case hi1q =>
    simp only [qa, qb, qc];exact rfl
   case hy1q =>
    refine Or.inl ⟨by rfl, ?_⟩;intro u hSw;have k0 := below_cell cn hSw rfl;clear hSw;go_simp
    (try with_reducible rfl)
   case hab1q => exact fun _ => rfl
   (try simp only [Act.put, qd, qe, qf])
   refine' anyM_take (i := 2) (oi := ?oi2q) (v := ?v2q) [2, 3, 4, 5, 6, 7] (by kernel_rfl) ?hi2q (by kernel_rfl) (by kernel_rfl) (by kernel_rfl) (by kernel_rfl) (fun _ _ _ h => h) ?hy2q ?hab2q hS ?rest2q
   case hi2q =>
    simp only [qa, qb, qc];exact rfl
   case hy2q =>
    refine Or.inl ⟨by rfl, ?_⟩;intro u hSw;clear hSw;go_simp
    (try with_reducible rfl)
   case hab2q => exact fun _ => rfl
   (try simp only [Act.put, qd, qe, qf])
   refine' anyM_take (i := 3) (oi := ?oi3q) (v := ?v3q) [3, 4, 5, 6, 7] (by kernel_rfl) ?hi3q (by kernel_rfl) (by kernel_rfl) (by kernel_rfl) (by kernel_rfl) (fun _ _ _ h => h) ?hy3q ?hab3q hS ?rest3q
   case hi3q =>
    simp only [qa, qb, qc];exact rfl
   case hy3q =>
    refine Or.inl ⟨by rfl, ?_⟩;intro u hSw;clear hSw;go_simp
    (try with_reducible rfl)
   case hab3q => exact fun _ => rfl
   (try simp only [Act.put, qd, qe, qf])
   refine' anyM_take (i := 4) (oi := ?oi4q) (v := ?v4q) [4, 5, 6, 7] (by kernel_rfl) ?hi4q (by kernel_rfl) (by kernel_rfl) (by kernel_rfl) (by kernel_rfl) (fun _ _ _ h => h) ?hy4q ?hab4q hS ?rest4q
   case hi4q =>
    simp only [qa, qb, qc];exact rfl
   case hy4q =>
    refine Or.inl ⟨by rfl, ?_⟩;intro u hSw;clear hSw;go_simp
    (try with_reducible rfl)
   case hab4q => exact fun _ => rfl
   (try simp only [Act.put, qd, qe, qf])
   refine' anyM_take (i := 5) (oi := ?oi5q) (v := ?v5q) [5, 6, 7] (by kernel_rfl) ?hi5q (by kernel_rfl) (by kernel_rfl) (by kernel_rfl) (by kernel_rfl) (fun _ _ _ h => h) ?hy5q ?hab5q hS ?rest5q
   case hi5q =>
    simp only [qa, qb, qc];exact rfl
   case hy5q =>
    refine Or.inl ⟨by rfl, ?_⟩;intro u hSw;have k0 := below_cell d0 hSw rfl; have k1 := below_cell d1 hSw rfl; have k2 := below_cell d2 hSw rfl; have k3 := below_cell d3 hSw rfl;clear hSw;go_simp
    (try with_reducible rfl)
   case hab5q => exact fun _ => rfl
   (try simp only [Act.put, qd, qe, qf])
   refine' anyM_only (i := 6) (o := ?oo6q) (by kernel_rfl) (by decide) ?ho6q ?hw6q (fun K hK => ?st6q)
   case ho6q =>
    simp only [qa, qb, qc];exact rfl
   case hw6q => rfl
   go_simp
   refine ⟨trivial, ?_⟩
   gi_at_call 96
   refine (CallsIn.inRound l (callsIn_wide.2 (sor_any acc e.2 _))).mono ?_;rintro e1 w2 ⟨rfl, hb1⟩;unfold setV;have hS := below_then hS hb1;clear hb1;go_simp
   refine hK _ _ hS ?_;clear hK K
   (try simp only [Act.put, qd, qe, qf])
   have ibx3 := ibx2.below hS;have a0 := ibx3.cell 0 _ rfl;have a1 := ibx3.cell 1 _ rfl;have a2 := ibx3.cell 2 _ rfl;have a3 := ibx3.cell 3 _ rfl;have z0 := ibx3.free 0 _ rfl;have z1 := ibx3.free 1 _ rfl;have z2 := ibx3.free 2 _ rfl;have z3 := ibx3.free 3 _ rfl;have nx := ibx3.lt;refine' anyM_last (o := ?oo7q) (by kernel_rfl) ?ho7q ?hw7q (fun K hK => ?st7q)
   case ho7q =>
    simp only [qa, qb, qc];exact rfl
   case hw7q => rfl
   go_simp
   refine hK _ _ ?_;clear hK K;refine anyIn_done (by kernel_rfl) ?_ _
   gi_wp2
   have hW2 := below_then hS1 hS;refine ⟨⟨by simpa using hW2.size, fun k o hk h0 ho => (set4_block (by omega)).trans ((hW2.block k (Array.getElem?_eq_some_iff.1 h0).1).trans h0)⟩, ⟨by simpa using hW2.size, (set4_block (by omega)).trans (hW2.block _ (by omega))⟩, ?_⟩
   (try dsimp only)
   rw [HM.out, HS2.out];have N3 := HI2.out.below hS;have n3 := ibn2.below hS;have c3 := ibc2.below hS;have r3 := ibr2.below hS;have g3 := igr2.trans (hS.mono (by have := hS1.size; omega));have hz := hW2.size;refine ⟨by simp; omega, N3.same (by simp) (fun y e => by have e2 := Option.some.inj e; dsimp only at e2; subst e2; exact set4_block (by omega)) (set4_block (by omega)), ?_, ?_, ?_, ?_, ?_⟩
   ·
    exact (((n3.far (by omega) _).far (by omega) _).far (by omega) _).far (by omega) _
   ·
    exact (((c3.far (by omega) _).far (by omega) _).far (by omega) _).far (by omega) _
   ·
    exact (((r3.far (by omega) _).far (by omega) _).far (by omega) _).far (by omega) _
   ·
    exact (((ibx3.set 0 _).set 1 _).set 2 _).set 3 _
   ·
    exact (((g3.setCell (by dsimp only; omega) _).setCell (by dsimp only; omega) _).setCell (by dsimp only; omega) _).setCell (by dsimp only; omega) _
 case done =>
  rintro D ys V hD hys hI hK;have hout := HRES.out _ hys;obtain ⟨isz, inet, ibn, ibc, ibr, ibx, igr⟩ := hI;rw [hout] at ibx;have a0 := ibx.cell 0 _ rfl;have a1 := ibx.cell 1 _ rfl;have a2 := ibx.cell 2 _ rfl;have a3 := ibx.cell 3 _ rfl;have r0 := ibr.cell 0 _ rfl;have r1 := ibr.cell 1 _ rfl;have r2 := ibr.cell 2 _ rfl;have r3 := ibr.cell 3 _ rfl;have z0 := ibr.free 0 _ rfl;have z1 := ibr.free 1 _ rfl;have z2 := ibr.free 2 _ rfl;have z3 := ibr.free 3 _ rfl;have nr := ibr.lt;have hX := (((ibr.set 0 (.int .u64 (word res 0))).set 1 (.int .u64 (word res 1))).set 2 (.int .u64 (word res 2))).set 3 (.int .u64 (word res 3));have hK2 := (set4_block (X := V) (q := w.heap.size + 1 + 1 + 1) (k := D) (v0 := .int .u64 (word res 0)) (v1 := .int .u64 (word res 1)) (v2 := .int .u64 (word res 2)) (v3 := .int .u64 (word res 3)) (by omega)).trans hK;have hG := (((igr.setCell (p := ⟨w.heap.size + 1 + 1 + 1, 0, none⟩) (by dsimp only; omega) (.int .u64 (word res 0))).setCell (p := ⟨w.heap.size + 1 + 1 + 1, 1, none⟩) (by dsimp only; omega) (.int .u64 (word res 1))).setCell (p := ⟨w.heap.size + 1 + 1 + 1, 2, none⟩) (by dsimp only; omega) (.int .u64 (word res 2))).setCell (p := ⟨w.heap.size + 1 + 1 + 1, 3, none⟩) (by dsimp only; omega) (.int .u64 (word res 3));have HX := Lib.hid hX;have HK := Lib.hid hK2;have HG := Lib.hid hG;clear hout hys HRES HST hX hK2 hG hK
  gi_wp2
  have hX := HX.out;have hK2 := HK.out;have hG := HG.out;generalize ((((V.setCell ⟨w.heap.size + 1 + 1 + 1, 0, none⟩ (.int .u64 (word res 0))).setCell ⟨w.heap.size + 1 + 1 + 1, 1, none⟩ (.int .u64 (word res 1))).setCell ⟨w.heap.size + 1 + 1 + 1, 2, none⟩ (.int .u64 (word res 2))).setCell ⟨w.heap.size + 1 + 1 + 1, 3, none⟩ (.int .u64 (word res 3))) = X at *;clear HX HK HG;refine ⟨by simp, .inl ⟨_, _, rfl, run_takeDeferred hK2, ?_⟩⟩;have hY := at_put hX (show w.heap.size + 1 + 1 + 1 ≠ D by omega) (.deferred none);have q0 := hY.cell 0 _ rfl;have q1 := hY.cell 1 _ rfl;have q2 := hY.cell 2 _ rfl;have q3 := hY.cell 3 _ rfl;refine ⟨_, by simp [results, Tryz.results103, go_sem, q0, q1, q2, q3]; try rfl, rfl, ?_⟩;exact hG.trans (belowK_b (w := w) (Nat.le_refl _) X D _ _ (by omega) hK2 rfl rfl)
 case stop =>
  rintro D c pre V hD hs hI hK;exact hI.elim
end Go.Proofs.YthdoniefjmphaaaGreatDoor
