/- store: Series: what a walk over the series' map needs; append in a drawn region of a fence. -/
import Derived.Test.YtedcdhngiofpjaaGreatDoorTh1
import Derived.Test.YtedcdhngiofpjaaGreatDoorTf1
import Derived.OwnWalkIn
import Derived.Maps.AppendAt
namespace Go.Proofs.YtedcdhngiofpjaaGreatDoor
open Go Go.Proofs Go.RowKit Go.Shelf
set_option maxRecDepth 100000
theorem srt_cut14 {α : Type} {pre rest : List (List UInt8 × α)} {e0 : List UInt8 × α} (h : Srt ltS (pre ++ e0 :: rest)) : (∀ e ∈ pre ++ [e0], ltS e0.1 e.1 = false) ∧ ∀ e ∈ rest, ltS e0.1 e.1 = true := by
  obtain ⟨_, h2, h3⟩ := List.pairwise_append.1 h
  obtain ⟨h4, _⟩ := List.pairwise_cons.1 h2
  refine ⟨fun e he => ?_, h4⟩
  rcases List.mem_append.1 he with q | q
  · cases z : ltS e0.1 e.1 with
    | false => rfl
    | true =>
      have := stoS.trans _ _ _ (h3 e q e0 (by simp)) z
      rw [stoS.irr] at this; cases this
  · rw [List.mem_singleton.1 q]; exact stoS.irr _
theorem info_set14 : (Tryz.prog.info? 24).map (fun i => (i.zero, i.size, i.bytes)) = some (some (.slice none 0 0), 1, 24) := by kernel_rfl
section
variable {F : Fence} {n : Nat} {P : Program} {o : Oper} {a : Act} {w : World} {K : Act → World → Prop} {Q : Exit → Act → World → Prop}
theorem stO_append (s x : Operand) (t : TypeId) (hop : o.op = Op.call { callee := Callee.builtin Builtin.append, args := #[s, x], argTypes := #[t, t] })
    (base : Nat) (e : TypeId) (i : TypeInfo) (z : Value) (size bytes : Nat) (h1 : P.underlying t = some (.slice e)) (h2 : P.info? e = some i) (h3 : i.zero = some z) (h4 : i.size = size) (h5 : i.bytes = bytes) (h6 : z.cells.size = size) (h7 : 0 < size)
    (v : Value) (k : Nat) (xs : List Value) (hs : a.eval s = v) (hown : w.ownsRow base e size v k xs) (ad : Addr) (m c : Nat) (news : List Value) (hx : a.eval x = .slice (some ad) m c) (hn : news.length = m * size)
    (hc : ∀ j u, news[j]? = some u → w.cell? (ad.add j) = some u) (h1c : ∀ u ∈ news, u.oneCell' = true) (b1 : k + m ≤ maxLen) (b2 : (k + m) * bytes ≤ 140737488355328) (b3 : base ≤ w.heap.size)
    (hK : ∀ v' w', w'.ownsRow base e size v' (k + m) (xs ++ news) → w.grownBy w' v.ownBlock → (v'.ownBlock = v.ownBlock ∨ v'.ownBlock = some w.heap.size) → K (a.put o.dst v') w') : o.wpIn F n P a w K Q := by
  obtain ⟨v', w', hrun, r1, r2, _, r3⟩ := run_append_own_at (P := P) (w := w) base t o.type e i z size bytes h1 h2 h3 h4 h5 h6 h7 v k xs hown ad m c news hn hc h1c b1 b2 b3
  unfold Oper.wpIn
  refine ⟨?_, ?_⟩
  · simp [Oper.about, hop, resolve, Target.leads, Sem.run_pure]
  · rw [Oper.semAt_plain F _ _ (by rw [hop]; intro c hc'; cases hc')]
    simp [execOp, hop, resolve, invoke, builtin, hs, hx, hrun, Result.andThen]
    exact hK _ _ r1 r2 r3
end
/-- clones of some series' labels -/
structure Cls (W : World) (base : Nat) (v : Value) (vs : List Value) (ss : List (List UInt8 × Sr)) : Prop where
  row : W.ownsRow base 24 1 v vs.length vs
  len : vs.length = ss.length
  cl : ∀ (j : Nat) (x : Value) (e : List UInt8 × Sr), vs[j]? = some x → ss[j]? = some e → W.ownsRow base TLab 2 x e.2.ls.length (labC e.2.ls)
def moS (g : Value × List Value) : List Nat := g.1.ownBlock.toList ++ g.2.flatMap fun v => v.ownBlock.toList
theorem moS_row {g : Value × List Value} {b : Nat} (h : g.1.ownBlock = some b) : b ∈ moS g := by simp [moS, h]
theorem moS_cl {g : Value × List Value} {v : Value} (hv : v ∈ g.2) {b : Nat} (h : v.ownBlock = some b) : b ∈ moS g := by
  unfold moS
  refine List.mem_append.2 (.inr (List.mem_flatMap.2 ⟨v, hv, by simp [h]⟩))
theorem Cls.keep {W W' : World} {base : Nat} {v : Value} {vs : List Value} {ss : List (List UInt8 × Sr)} (h : Cls W base v vs ss) (k : ∀ b ∈ moS (v, vs), W'.heap[b]? = W.heap[b]?) : Cls W' base v vs ss :=
  ⟨row_keep14 h.row (fun b hb => k b (moS_row hb)), h.len, fun j x e hj he => row_keep14 (h.cl j x e hj he) (fun b hb => k b (moS_cl (List.mem_of_getElem? hj) hb))⟩
theorem Cls.lt {W : World} {base : Nat} {v : Value} {vs : List Value} {ss : List (List UInt8 × Sr)} (h : Cls W base v vs ss) : ∀ b ∈ moS (v, vs), b < W.heap.size ∧ base ≤ b := by
  have own : ∀ {e size n : Nat} {u : Value} {xs : List Value}, W.ownsRow base e size u n xs → ∀ b, u.ownBlock = some b → b < W.heap.size ∧ base ≤ b := fun {e size n u xs} hr b hb => by
    rcases hr.2 with ⟨rfl, _⟩ | ⟨g, cap, cur, rfl, q1, q2, _⟩
    · simp [Value.ownBlock] at hb
    · obtain rfl : g = b := by simpa [Value.ownBlock] using hb
      exact ⟨(Array.getElem?_eq_some_iff.1 q2).1, q1⟩
  intro b hb
  unfold moS at hb
  rcases List.mem_append.1 hb with q | q
  · exact own h.row b (by simpa using q)
  · obtain ⟨x, hx, q⟩ := List.mem_flatMap.1 q
    obtain ⟨j, hj⟩ := List.getElem?_of_mem hx
    obtain ⟨e, he⟩ : ∃ e, ss[j]? = some e := by
      have := (List.getElem?_eq_some_iff.1 hj).1
      exact ⟨ss[j]'(by rw [← h.len]; exact this), List.getElem?_eq_getElem _⟩
    exact own (h.cl j x e hj he) b (by simpa using q)
/-- ahead of a round -/
structure SeI (S : Sto) (w : World) (st : StS) (g : Value × List Value) (V : World) (pre rest : List (List UInt8 × Sr)) : Prop where
  parts : S.ss = pre ++ rest
  ents : entsS rest = st.2
  kd : ∀ e ∈ pre, ltS st.1 e.1 = false
  kr : ∀ e ∈ rest, ltS st.1 e.1 = true
  l : Boxed V w.heap.size 47 g.1
  m : Boxed V (w.heap.size + 1) 138 (.pointer (some ⟨S.b, 1, none⟩))
  cls : Cls V (w.heap.size + 3) g.1 g.2 pre
  B : Below w.heap.size w V
  sz : w.heap.size + 3 ≤ V.heap.size
theorem SeI.same {S : Sto} {w : World} {st : StS} {g : Value × List Value} {A A' : World} {pre rest : List (List UInt8 × Sr)} {B : Nat} (h : SeI S w st g A pre rest) (q : Same B (moS g) A A') (hB : w.heap.size + 3 ≤ B) : SeI S w st g A' pre rest :=
  ⟨h.parts, h.ents, h.kd, h.kr, boxed_same h.l q (by omega), boxed_same h.m q (by omega), h.cls.keep (fun b hb => q.block b (.inr hb) (h.cls.lt b hb).1),
   h.B.trans ⟨q.os, q.tape, q.output, q.size, fun k hk => q.block k (.inl (by omega)) (Nat.lt_of_lt_of_le hk h.B.size)⟩, Nat.le_trans h.sz q.size⟩
end Go.Proofs.YtedcdhngiofpjaaGreatDoor
/- store: Series. -/
namespace Go.Proofs.YtedcdhngiofpjaaGreatDoor
open Go Go.Proofs Go.RowKit Go.Shelf
set_option maxRecDepth 100000
attribute [local go_sem] cell_set Oper.semAt_some
/-- what a round needs -/
structure SeW (N sb : Nat) (gv lv : Value) (u : World) : Prop where
  l : u.cell? ⟨N, 0, none⟩ = some gv
  fz : u.frozen? ⟨N, 0, none⟩ = false
  s : u.cell? ⟨sb, 0, none⟩ = some lv
theorem SeW.below {N sb : Nat} {gv lv : Value} {u u' : World} (h : SeW N sb gv lv u) (hb : Below u.heap.size u u') : SeW N sb gv lv u' :=
  ⟨(hb.cell (p := ⟨N, 0, none⟩) (World.block_lt_of_cell? u _ h.l)).trans h.l, (hb.frozen (p := ⟨N, 0, none⟩) (World.block_lt_of_cell? u _ h.l)).trans h.fz, (hb.cell (p := ⟨sb, 0, none⟩) (World.block_lt_of_cell? u _ h.s)).trans h.s⟩
theorem row_base14 {W : World} {b b' e size n : Nat} {v : Value} {xs : List Value} (h : W.ownsRow b e size v n xs) (hb : b' ≤ b) : W.ownsRow b' e size v n xs :=
  ⟨h.1, h.2.imp id (fun ⟨g, cap, cur, r1, r2, r3⟩ => ⟨g, cap, cur, r1, Nat.le_trans hb r2, r3⟩)⟩
theorem row_one14 {W : World} {b e size n : Nat} {v : Value} {xs : List Value} (h : W.ownsRow b e size v n xs) : v.oneCell' = true := by
  rcases h.2 with ⟨rfl, _⟩ | ⟨g, cap, cur, rfl, _⟩ <;> rfl
/-- the slots in a round -/
abbrev SeT (S : Sto) (N : Nat) (k : List UInt8) (b : Nat) : Array Value :=
  #[.pointer (some ⟨S.b, 0, none⟩), undef, .slice none 0 0, .pointer (some ⟨N, 0, none⟩), undef, .pointer (some ⟨b, 0, none⟩), .pointer (some ⟨S.b, 0, none⟩), .pointer (some ⟨S.b, 0, none⟩), .pointer (some ⟨S.b, 1, none⟩),
    .func (.func 78) #[] #[.pointer (some ⟨N + 1, 0, none⟩), .pointer (some ⟨N + 1 + 1, 0, none⟩)], .string ⟨List.toArray k⟩, .pointer (some ⟨b, 0, none⟩), undef, undef, undef, undef, undef, undef, undef, undef, undef]
set_option maxHeartbeats 8000000 in
theorem series_wd (S : Sto) (w : World) (h : StAt w S) :
    CallsIn Fence.wide 9 Tryz.prog 17 #[.pointer (some ⟨S.b, 0, none⟩)] w fun e w' => ∃ v vs, e = .returned v ∧ Cls w' w.heap.size v vs S.ss ∧ Below w.heap.size w w' := by
  have HAb := Lib.hid (fun W => aboveS_any (some ⟨S.b, 1, none⟩) [] W)
  refine callsIn_of_wp_marks Tryz.func17 rfl trivial ?_ rfl
  simp only [Tryz.ntmps17, List.size_toArray, List.length_cons, List.length_nil, Nat.reduceAdd, Nat.reduceSub, Array.replicate_succ, Array.replicate_zero, List.push_toArray, List.append_toArray, List.nil_append, List.cons_append]
  have HH := Lib.hid h
  clear h
  gi_wp2_with fail
  refine ⟨trivial, (callsIn_wide.2 (HAb.out _)).mono ?_⟩
  rintro e w1 ⟨rfl, rfl⟩
  gi_wp2
  obtain ⟨W0, hW0⟩ : ∃ W0, ((w.alloc (.cells #[.slice none 0 0] 47)).alloc (.cells #[.pointer (some ⟨S.b, 1, none⟩)] 138)).alloc (.cells #[.string ⟨List.toArray []⟩] 9) = W0 := ⟨_, rfl⟩
  rw [hW0]
  have hs0 : W0.heap.size = w.heap.size + 3 := by rw [← hW0]; simp
  have hb0 : Below w.heap.size w W0 := by rw [← hW0]; go_grown
  have B0 : Boxed W0 w.heap.size 47 (.slice none 0 0) := by rw [← hW0]; exact ((Boxed.new w _ _).alloc _).alloc _
  have B1 : Boxed W0 (w.heap.size + 1) 138 (.pointer (some ⟨S.b, 1, none⟩)) := by
    rw [← hW0]
    have q := Boxed.new (w.alloc (.cells #[.slice none 0 0] 47)) 138 (.pointer (some ⟨S.b, 1, none⟩))
    rw [World.size_alloc] at q
    exact q.alloc _
  have B2 : Boxed W0 (w.heap.size + 2) 9 (.string ⟨List.toArray []⟩) := by
    rw [← hW0]
    have q := Boxed.new ((w.alloc (.cells #[.slice none 0 0] 47)).alloc (.cells #[.pointer (some ⟨S.b, 1, none⟩)] 138)) 9 (.string ⟨List.toArray []⟩)
    rw [World.size_alloc, World.size_alloc] at q
    exact q
  clear hW0
  have HN := Lib.hid hs0
  refine rangeG (F := Fence.wide) (n := 9) rfl (by omega) (gf := 78) (lb := #[.pointer (some ⟨w.heap.size + 1, 0, none⟩), .pointer (some ⟨w.heap.size + 1 + 1, 0, none⟩)]) rfl trivial (enters_of Tryz.func78 (by kernel_rfl) rfl)
    (seqG_depth (aboveS_stops moS (w.heap.size + 1) (w.heap.size + 2) S.b 1 [] (entsS S.ss) W0 B2.cell)) (Below.refl _ _) (fun _ => rfl)
    (fun st g V => ∃ pre rest, SeI S w st g V pre rest)
    (fun _ _ _ => False)
    (.slice none 0 0, []) (fun st g A A' hi q => by obtain ⟨pre, rest, hi⟩ := hi; exact ⟨pre, rest, hi.same q (by omega)⟩)
    (fun _ _ _ _ hi _ => hi)
    (fun k hk => by simp [moS, Value.ownBlock] at hk) ⟨[], S.ss, ⟨rfl, rfl, fun _ hx => (nomatch hx), fun e he => by rw [(HH.out.key e he).1]; exact ltS_text _, B0, B1, ⟨World.ownsRow_nil W0 _ _ _, rfl, fun j x e hj _ => by simp at hj⟩, hb0, by omega⟩⟩
    ?pre
    (fun x a' _ => a' = { tmps := SeT S w.heap.size x.1 x.2, defers := [] })
    (fun x a' A A' hx _ => hx) ?assign ?body ?done (fun _ _ _ _ _ hf => hf.elim)
  case pre =>
    rintro st g V ⟨pre, rest, q⟩
    have hst := HH.out.below q.B
    refine ⟨q.m.cell, S.v, entsS S.ss, S.O, (cell_of_row V S.b 1 _ _ _ hst.blk).trans rfl, hst.map, by unfold entsS; have := hst.len; simp; omega, entsS_srt hst.srt, ?_⟩
    rw [q.parts, ← q.ents]
    have : entsS (pre ++ rest) = entsS pre ++ entsS rest := by simp [entsS]
    rw [this]
    refine hi_app stoS (fun x hx => ?_) (fun x hx => ?_)
    · obtain ⟨e, he, rfl⟩ := List.mem_map.1 hx
      exact q.kd e he
    · obtain ⟨e, he, rfl⟩ := List.mem_map.1 hx
      exact q.kr e he
  case assign =>
    rintro l' st x st' g V K hI hnx hmo hK
    simp only [enS]
    have HI := Lib.hid hI
    have HM := Lib.hid hmo
    clear hI hmo
    gi_wp2
    exact hK _ _ (Step.refl HM.out) HI.out rfl
  case body =>
    rintro l' ⟨k, r⟩ x st' g a' V hl _ hmo ⟨pre, rest, q⟩ hnx rfl
    obtain ⟨e0, rest', rfl⟩ : ∃ e0 rest', rest = e0 :: rest' := by
      cases rest with
      | nil =>
        have := q.ents
        subst this
        cases hnx
      | cons e0 rest => exact ⟨e0, rest, rfl⟩
    have he := q.ents
    dsimp only at he
    subst he
    obtain ⟨rfl, rfl⟩ : (e0.1, e0.2.sb) = x ∧ (e0.1, entsS rest') = st' := by simpa [nxS, entsS] using hnx
    clear hnx
    have hst := HH.out.below q.B
    have hm : e0 ∈ S.ss := by rw [q.parts]; simp
    have hse := hst.ser e0 hm
    have hls := (hst.key e0 hm).2.2
    have hc5 := (HH.out.key e0 hm).2.1
    have hle : e0.2.ls.length ≤ 1000 := by
      unfold checkR at hc5
      split at hc5
      · cases hc5
      · omega
    obtain ⟨lb, lc, hlv⟩ : ∃ lb lc, e0.2.lv = .slice (some ⟨lb, 0, none⟩) e0.2.ls.length lc := by
      rcases hse.lab.2 with ⟨_, q0⟩ | ⟨lb, lc, cur, q1, _⟩
      · exact absurd (List.eq_nil_of_length_eq_zero q0) hls
      · exact ⟨lb, lc, q1⟩
    have hlr := hse.lab
    rw [hlv] at hlr
    have HCl := Lib.hid (fun W (hW : ∀ j v, (labC e0.2.ls)[j]? = some v → W.cell? ⟨lb, 0 + j, none⟩ = some v) => clone_any14 lb 0 lc e0.2.ls hle W hW)
    have hlc : ∀ j v, (labC e0.2.ls)[j]? = some v → V.cell? ⟨lb, 0 + j, none⟩ = some v := fun j v hj => by
      have := hlr.cells (g := lb) rfl j v hj
      rwa [Addr.add_lit, ] at this
    have hll : lb < V.heap.size := hse.lab_lt lb (by rw [hlv]; rfl)
    have hsc := (cell_of_row V e0.2.sb 0 _ _ _ hse.blk).trans rfl
    obtain ⟨gv, gs⟩ := g
    have hS0 : SeW w.heap.size e0.2.sb gv (.slice (some ⟨lb, 0, none⟩) e0.2.ls.length lc) V.drew := ⟨q.l.cell, q.l.frozen, hsc.trans (congrArg some hlv)⟩
    obtain ⟨i0, hi, hz0, hz1, hz2⟩ := info_parts info_set14
    have HI := Lib.hid hi
    have HZ0 := Lib.hid hz0
    have HZ1 := Lib.hid hz1
    have HZ2 := Lib.hid hz2
    have hsbw : e0.2.sb < w.heap.size := HH.out.lt _ (Sto.mem_own.2 (.inr (.inr ⟨e0, hm, by simp [Sr.own]⟩)))
    have hsr := HH.out.srt
    rw [q.parts] at hsr
    have hgl : gs.length ≤ 100 := by
      have h1 := q.cls.len
      have h2 := HH.out.len
      rw [q.parts, List.length_append] at h2
      dsimp only at h1
      omega
    have HQ := Lib.hid q
    have HM := Lib.hid hmo
    have HC := Lib.hid (HCl.out V.drew hlc)
    clear q hmo hst hse hls hc5 hlr HCl hlc hsc hm hi hz0 hz1 hz2 hle
    generalize e0.2.sb = sb at *
    unfold SeT
    dsimp only
    gi_wp2_with fail
    refine wpIn_mono ?_ NoPanic.imp
    refine region_anyM (S := SeW w.heap.size sb gv (.slice (some ⟨lb, 0, none⟩) e0.2.ls.length lc)) 8 (by kernel_rfl) (fun hS => ?_) hS0
    clear hS0
    refine anyM_c 0 [0, 7, 8] hS (fun u h => h.l) ?_
    refine anyM_d 1 [1, 2, 3, 4, 5, 6, 7, 8] hS ?_
    refine anyM_d 2 [2, 3, 4, 5, 6, 7, 8] hS ?_
    refine anyM_d 3 [3, 4, 5, 6, 7, 8] hS ?_
    refine anyM_c 4 [4, 5, 6, 7, 8] hS (fun u h => h.s) ?_
    refine anyM_o 5 (fun K hK => ?_)
    go_simp
    refine ⟨trivial, ?_⟩
    refine (callsIn_wide.2 HC.out).mono ?_
    rintro e w5 ⟨v5, rfl, hown5, hb5, hnil5⟩
    obtain ⟨va, vn, vc, rfl⟩ : ∃ va vn vc, v5 = .slice va vn vc := by
      rcases hown5.2 with ⟨rfl, _⟩ | ⟨g, cap, cur, rfl, _⟩
      · exact ⟨_, _, _, rfl⟩
      · exact ⟨_, _, _, rfl⟩
    have hM1 := hS.below hb5
    have HB5 := Lib.hid (show Below V.heap.size V w5 from ((Below.refl _ V).drew).trans hb5)
    have HO5 := Lib.hid (show w5.ownsRow V.heap.size TLab 2 (.slice va vn vc) e0.2.ls.length (labC e0.2.ls) from hown5)
    dsimp only
    refine hK _ _ hM1 ?_
    clear hS
    have hS := hM1
    clear hM1 hK K HC hb5 hown5 hnil5
    refine anyM_o 6 (fun K hK => ?_)
    go_simp
    have hb6 : Below w5.heap.size w5 (w5.alloc (.cells #[(.slice va vn vc)] 24)) := below_cells _
    have hc6 : (w5.alloc (.cells #[(.slice va vn vc)] 24)).cell? ⟨w5.heap.size, 0, none⟩ = some (.slice va vn vc) := (Boxed.new w5 24 (.slice va vn vc)).cell
    have hs6 : (w5.alloc (.cells #[(.slice va vn vc)] 24)).heap.size = w5.heap.size + 1 := by simp
    generalize (w5.alloc (.cells #[(.slice va vn vc)] 24)) = w6 at *
    have hM1 := hS.below hb6
    refine hK _ _ hM1 ?_
    clear hS
    have hS := hM1
    clear hM1 hK K
    have HB6 := Lib.hid (HB5.out.trans (hb6.mono HB5.out.size))
    have hcl6 := Lib.hid (HQ.out.cls.keep (fun b hb => HB6.out.block b (HQ.out.cls.lt b hb).1))
    refine anyM_o 7 (fun K hK => ?_)
    refine stO_append _ _ 47 rfl (w.heap.size + 3) 24 i0 (.slice none 0 0) 1 24 Tryz.underlying47 HI.out HZ0.out HZ1.out HZ2.out rfl (by decide) gv gs.length gs rfl hcl6.out.row ⟨w5.heap.size, 0, none⟩ 1 1 [(.slice va vn vc)] rfl rfl (fun j u hj => ?_) (fun u hu => ?_) (by unfold maxLen; omega) (by omega) ?_ ?_
    · rcases j with _ | j
      · obtain rfl : (.slice va vn vc) = u := by simpa using hj
        rw [Addr.add_lit]; exact hc6
      · simp at hj
    · rw [List.mem_singleton.1 hu]; exact row_one14 HO5.out
    · exact Nat.le_trans HQ.out.sz HB6.out.size
    intro v7 w7 hr7 hg7 ha7
    obtain ⟨xa, xn, xc, rfl⟩ : ∃ va vn vc, v7 = .slice va vn vc := by
      rcases hr7.2 with ⟨rfl, _⟩ | ⟨g, cap, cur, rfl, _⟩
      · exact ⟨_, _, _, rfl⟩
      · exact ⟨_, _, _, rfl⟩
    have T7 : Turn gv.ownBlock.toList w6 w7 := Turn.grown hg7
    have hgvb : ∀ b ∈ gv.ownBlock.toList, w.heap.size + 3 ≤ b ∧ b < V.heap.size := fun b hb => (HQ.out.cls.lt b (by simp only [moS, List.mem_append]; exact .inl hb)).symm
    have hN6 : w.heap.size < w6.heap.size := World.block_lt_of_cell? w6 _ hS.l
    have hs6' : sb < w6.heap.size := World.block_lt_of_cell? w6 _ hS.s
    have eN := T7.block w.heap.size hN6 (fun q => by have := (hgvb _ q).1; omega)
    have eS := T7.block sb hs6' (fun q => by have := (hgvb _ q).1; omega)
    have hM1 : SeW w.heap.size sb gv (.slice (some ⟨lb, 0, none⟩) e0.2.ls.length lc) w7 := ⟨(World.cell?_of_block (a := ⟨w.heap.size, 0, none⟩) eN).trans hS.l, (World.frozen?_of_block (a := ⟨w.heap.size, 0, none⟩) eN).trans hS.fz, (World.cell?_of_block (a := ⟨sb, 0, none⟩) eS).trans hS.s⟩
    refine hK _ _ hM1 ?_
    clear hS
    have hS := hM1
    clear hM1 hK K eN eS hN6 hs6' hc6
    refine anyM_l (fun K hK => ?_)
    have s1 := hS.l
    have s2 := hS.fz
    go_simp
    refine hK _ _ ?_
    clear hK K s1 s2 hS
    refine anyIn_done (by kernel_rfl) ?_ _
    refine NoPanic.normal ?_
    gi_wp2
    have hq := HQ.out
    have TV7 : Turn gv.ownBlock.toList V w7 := (Turn.of_below HB6.out _).trans T7 (fun _ q => .inl q)
    have TV8 : Turn (w.heap.size :: gv.ownBlock.toList) V (w7.setCell ⟨w.heap.size, 0, none⟩ (.slice xa xn xc)) := (TV7.mono (fun b hb => List.mem_cons_of_mem _ hb)).trans (Turn.set w7 w.heap.size 0 (.slice xa xn xc)) (fun b hb => .inl (by rw [List.mem_singleton.1 hb]; exact List.mem_cons_self ..))
    have nm : ∀ b, b ≠ w.heap.size → (∀ q, q = b → q < w.heap.size + 3) → b ∉ w.heap.size :: gv.ownBlock.toList := fun b h1 h2 q => by
      rcases List.mem_cons.1 q with r | r
      · exact h1 r
      · have := (hgvb b r).1; have := h2 b rfl; omega
    have lN7 : Boxed w7 w.heap.size 47 gv := TV7.at (fun q => by have := (hgvb _ q).1; omega) hq.l
    have hset : ∀ b, b ≠ w.heap.size → (w7.setCell ⟨w.heap.size, 0, none⟩ (.slice xa xn xc)).heap[b]? = w7.heap[b]? := fun b hb => Below.heap_setCell _ _ _ b hb
    have hvr := row_base14 (b' := w.heap.size + 3) HO5.out hq.sz
    have hclN : Cls (w7.setCell ⟨w.heap.size, 0, none⟩ (.slice xa xn xc)) (w.heap.size + 3) (.slice xa xn xc) (gs ++ [.slice va vn vc]) (pre ++ [e0]) := by
      have own2 : ∀ {e size n : Nat} {u : Value} {xs : List Value} {W : World}, W.ownsRow (w.heap.size + 3) e size u n xs → ∀ b, u.ownBlock = some b → b ≠ w.heap.size := fun {e size n u xs W} hr b hb => by
        rcases hr.2 with ⟨rfl, _⟩ | ⟨g, cap, cur, rfl, q1, q2, _⟩
        · simp [Value.ownBlock] at hb
        · obtain rfl : g = b := by simpa [Value.ownBlock] using hb
          omega
      have gty : ∀ b ∈ gv.ownBlock.toList, ∃ cs, V.heap[b]? = some (.cells cs 24 (0, 0)) := fun b hb => row_lt14 hq.cls.row b (by simpa using hb)
      have lgv : ∀ {size n : Nat} {u : Value} {xs : List Value} {B : Nat}, V.ownsRow B TLab size u n xs → ∀ b, u.ownBlock = some b → b ∉ gv.ownBlock.toList := fun {size n u xs B} hr b hb hm => by
        obtain ⟨c1, q1⟩ := row_lt14 hr b hb
        obtain ⟨c2, q2⟩ := gty b hm
        rw [q1] at q2; cases q2
      refine ⟨?_, ?_, ?_⟩
      · have := row_keep14 hr7 (fun b hb => hset b (own2 hr7 b hb))
        rw [List.length_append]
        exact this
      · rw [List.length_append, List.length_append, hq.cls.len]; rfl
      · intro j x e hj he
        by_cases hlt : j < gs.length
        · rw [List.getElem?_append_left hlt] at hj
          rw [List.getElem?_append_left (by rw [← hq.cls.len]; exact hlt)] at he
          have h0 := hq.cls.cl j x e hj he
          exact row_keep14 h0 (fun b hb => (hset b (own2 h0 b hb)).trans (TV7.block b ((hq.cls.lt b (moS_cl (List.mem_of_getElem? hj) hb)).1) (lgv h0 b hb)))
        · have hjl := (List.getElem?_eq_some_iff.1 hj).1
          have hje : j = gs.length := by simp at hjl; omega
          subst hje
          rw [List.getElem?_append_right (Nat.le_refl _), Nat.sub_self] at hj
          have hpl : pre.length = gs.length := hq.cls.len.symm
          rw [List.getElem?_append_right (by rw [hpl]; exact Nat.le_refl _), hpl, Nat.sub_self] at he
          obtain rfl : .slice va vn vc = x := by simpa using hj
          obtain rfl : e0 = e := by simpa using he
          refine row_keep14 hvr (fun b hb => ?_)
          have hb2 : V.heap.size ≤ b ∧ b < w5.heap.size := by
            rcases HO5.out.2 with ⟨z1, _⟩ | ⟨g, cap, cur, z1, z2, z3, _⟩
            · rw [z1] at hb; simp [Value.ownBlock] at hb
            · rw [z1] at hb
              obtain rfl : g = b := by simpa [Value.ownBlock] using hb
              exact ⟨z2, (Array.getElem?_eq_some_iff.1 z3).1⟩
          have e1 := hset b (own2 hvr b hb)
          have e2 := T7.block b (by omega) (fun q => by have := (hgvb b q).2; omega)
          have e3 := hb6.block b hb2.2
          exact e1.trans (e2.trans e3)
    refine ⟨((.slice xa xn xc), gs ++ [.slice va vn vc]), ⟨pre ++ [e0], rest', by rw [hq.parts]; simp, rfl, (srt_cut14 hsr).1, (srt_cut14 hsr).2, lN7.set _, TV8.at (nm _ (by omega) (fun q e => by omega)) hq.m, hclN, hq.B.trans (TV8.below (fun b hb => by
      rcases List.mem_cons.1 hb with rfl | hb
      · exact Nat.le_refl _
      · have := (hgvb b hb).1; omega) hq.B.size), Nat.le_trans hq.sz TV8.size⟩, ?_⟩
    refine ⟨TV8.size, fun k o hk hkm ho => TV8.at (fun q => ?_) ho, fun k hk => ?_, fun k hk => (hclN.lt k hk).1⟩
    · rcases List.mem_cons.1 q with r | r
      · have := HN.out; omega
      · exact hkm (by simp only [moS, List.mem_append]; exact .inl r)
    · unfold moS at hk
      rcases List.mem_append.1 hk with r | r
      · dsimp only at r
        rcases ha7 with z | z
        · rw [z] at r; exact .inl (by simp only [moS, List.mem_append]; exact .inl r)
        · rw [z] at r
          right
          have : k = w6.heap.size := by simpa using r
          rw [this]; exact HB6.out.size
      · obtain ⟨y, hy, r⟩ := List.mem_flatMap.1 r
        rcases List.mem_append.1 hy with z | z
        · exact .inl (by simp only [moS, List.mem_append]; exact .inr (List.mem_flatMap.2 ⟨y, z, r⟩))
        · right
          obtain rfl := List.mem_singleton.1 z
          rcases HO5.out.2 with ⟨z1, _⟩ | ⟨g, cap, cur, z1, z2, _⟩
          · rw [z1] at r; simp [Value.ownBlock] at r
          · rw [z1] at r
            obtain rfl : g = k := by simpa [Value.ownBlock, eq_comm] using r
            exact z2
  case done =>
    rintro D ⟨k, r⟩ ⟨gv, gs⟩ V hD hnx ⟨pre, rest, q⟩ hDm hK
    have hr : rest = [] := by
      cases r with
      | nil =>
        have := q.ents
        dsimp only at this
        unfold entsS at this
        simpa using this
      | cons _ _ => cases hnx
    have hp : S.ss = pre := by rw [q.parts, hr, List.append_nil]
    have HF := Lib.hid (show Cls (V.putObj D (.deferred none)) w.heap.size gv gs S.ss ∧ Below w.heap.size w (V.putObj D (.deferred none)) by
      rw [hp]
      have hc := q.cls.keep (W' := V.putObj D (.deferred none)) (fun b hb => World.putObj_heap_other (fun e => hDm (by rw [← e]; exact hb)))
      exact ⟨⟨row_base14 hc.row (by omega), hc.len, fun j x e hj he => row_base14 (hc.cl j x e hj he) (by omega)⟩, q.B.trans ⟨rfl, rfl, rfl, by simp, fun k hk => World.putObj_heap_other (by omega)⟩⟩)
    have g1 := q.l.cell
    clear q hnx hp hr
    gi_wp2
    refine ⟨by simp, .inl ⟨_, _, rfl, run_takeDeferred hK, ?_⟩⟩
    exact ⟨gv, by simp [results, Tryz.results17, go_sem]; try rfl, gv, rfl, ⟨gs, HF.out.1⟩, HF.out.2⟩
theorem series_any (S : Sto) (w : World) (h : StAt w S) :
    Calls Tryz.prog 17 #[.pointer (some ⟨S.b, 0, none⟩)] w fun e w' => ∃ v vs, e = .returned v ∧ Cls w' w.heap.size v vs S.ss ∧ Below w.heap.size w w' := (callsIn_wide (n := 9)).1 (series_wd S w h)
end Go.Proofs.YtedcdhngiofpjaaGreatDoor
