/- store: Evict. -/
import Derived.Test.YtedcdhngiofpjaaGreatDoorSy
import Derived.Test.YtedcdhngiofpjaaGreatDoorTk7
namespace Go.Proofs.YtedcdhngiofpjaaGreatDoor
open Go Go.Proofs Go.RowKit Go.Shelf
set_option maxRecDepth 100000
attribute [local go_sem] Oper.semAt_some
theorem st_drop {w w' : World} {S : Sto} (h : StAt w S) {A B : List (List UInt8 × Sr)} {k : List UInt8} {s : Sr} (he : S.ss = A ++ (k, s) :: B) {v' : Value} {O' : List Nat}
    (d1 : w'.heap[S.b]? = some (.cells #[.int .i64 S.grid, v', .int .i64 S.n] TSto (0, 0))) (d2 : MapS w' v' (entsS (A ++ B)) O') (d3 : Turn (S.b :: S.O) w w') (d4 : ∀ b ∈ O', b ∈ S.O) :
    StAt w' { S with v := v', O := O', ss := A ++ B } := by
  have hsr := h.srt
  rw [he] at hsr
  obtain ⟨h1, h2, h3⟩ := List.pairwise_append.1 hsr
  have hsub : ∀ e ∈ A ++ B, e ∈ S.ss := fun e hq => by rw [he]; rcases List.mem_append.1 hq with q | q <;> simp [q]
  obtain ⟨t1, t2⟩ := h.top_not
  refine ⟨d1, d2, fun e hq => (h.ser e (hsub e hq)).turn d3 (fun b hb hm => ?_) (fun b hb hm => ?_), fun e hq => h.key e (hsub e hq), List.pairwise_append.2 ⟨h1, (List.pairwise_cons.1 h2).2, fun a ha b hb => h3 a ha b (by simp [hb])⟩, ?_, fun e hq e' hq' => h.dis e (hsub e hq) e' (hsub e' hq')⟩
  · rcases List.mem_cons.1 hm with rfl | hm
    · exact (t2 e (hsub e hq)).1 hb
    · exact (t2 e (hsub e hq)).2 b hm hb
  · have := h.lab_not h e (hsub e hq) b hb
    refine this (Sto.mem_own.2 ?_)
    rcases List.mem_cons.1 hm with rfl | hm
    · exact .inl rfl
    · exact .inr (.inl hm)
  · have := h.len
    rw [he] at this
    simp at this ⊢
    omega
theorem st_drop_call {w : World} {S : Sto} (h : StAt w S) {A B : List (List UInt8 × Sr)} {k : List UInt8} {s : Sr} (he : S.ss = A ++ (k, s) :: B) :
    Calls Tryz.prog 44 #[.pointer (some ⟨S.b, 1, none⟩), .string ⟨List.toArray k⟩] w fun e w' => (∃ r, e = .returned r) ∧ ∃ v' O', (∀ b ∈ O', b ∈ S.O) ∧ StAt w' { S with v := v', O := O', ss := A ++ B } ∧ Turn (S.b :: S.O) w w' := by
  have hes : entsS S.ss = entsS A ++ (k, s.sb) :: entsS B := by rw [he]; simp [entsS]
  have hsr := entsS_srt h.srt
  have hsr2 := hsr
  rw [hes] at hsr2
  obtain ⟨c1, c2, c3⟩ := cut_of14 stoS hsr2
  rw [← hes] at c1 c2 c3
  obtain ⟨q1, q2, q3, q4⟩ := at_pos_some stoS hsr c3
  have hl : (entsS S.ss).length = S.ss.length := by unfold entsS; simp
  refine (dropS_any S.b 1 #[.int .i64 S.grid, S.v, .int .i64 S.n] TSto S.v (entsS S.ss) S.O k (posL ltS (entsS S.ss) k) w h.blk rfl h.map h.top_not.1 (by rw [hl]; exact h.len) (List.getElem?_eq_some_iff.1 q1).1 (pos_iff stoS hsr k) (by unfold hereS; rw [q1]; simp)).mono ?_
  rintro e w' ⟨hr, v', O', d1, d2, d3, d4⟩
  rw [q3, q4, c1, c2] at d2
  have : entsS A ++ entsS B = entsS (A ++ B) := by simp [entsS]
  rw [this] at d2
  exact ⟨hr, v', O', d4, st_drop h he (by simpa using d1) d2 d3 d4, d3⟩
/-- ahead of a round -/
structure EwI (S : Sto) (T : Int) (w : World) (k : List UInt8) (r : List EnS) (W : World) (S' : Sto) (pre don rest : List (List UInt8 × Sr)) : Prop where
  parts : S.ss = pre ++ rest
  parts2 : S'.ss = don ++ rest
  cn : don.map con = (pre.map con).filterMap (evC T)
  ents : entsS rest = r
  kd : ∀ e ∈ don, ltS k e.1 = false
  kr : ∀ e ∈ rest, ltS k e.1 = true
  b : S'.b = S.b
  grid : S'.grid = S.grid
  n : S'.n = S.n
  own : ∀ x ∈ S'.own, x ∈ S.own
  lvs : ∀ e ∈ S'.ss, ∃ e' ∈ S.ss, e'.2.lv = e.2.lv
  st : StAt W S'
  bs : Boxed W w.heap.size 27 (.pointer (some ⟨S.b, 0, none⟩))
  bt : Boxed W (w.heap.size + 1) 2 (.int .i64 T)
  bg : Boxed W (w.heap.size + 2) 3 (.int .i64 (((pre.map con).map (goneC T)).sum : Int))
  bm : Boxed W (w.heap.size + 3) 138 (.pointer (some ⟨S.b, 1, none⟩))
  turn : Turn S.own w W
theorem EwI.same {S : Sto} {T : Int} {w : World} {k : List UInt8} {r : List EnS} {A A' : World} {S' : Sto} {pre don rest : List (List UInt8 × Sr)} {B : Nat} {M : List Nat} (h : EwI S T w k r A S' pre don rest) (hs : StAt w S) (t : Same B M A A') (hB : w.heap.size + 5 ≤ B) : EwI S T w k r A' S' pre don rest := by
  refine ⟨h.parts, h.parts2, h.cn, h.ents, h.kd, h.kr, h.b, h.grid, h.n, h.own, h.lvs, h.st.same t (fun b hb => .inl (by have := hs.lt b (h.own b hb); omega)) (fun e he b hb => ?_),
    boxed_same h.bs t (by omega), boxed_same h.bt t (by omega), boxed_same h.bg t (by omega), boxed_same h.bm t (by omega), ?_⟩
  · obtain ⟨e', he', q⟩ := h.lvs e he
    rw [← q] at hb
    have := hs.lab_lt e' he' b hb; omega
  · exact ⟨t.os.trans h.turn.os, t.tape.trans h.turn.tape, t.output.trans h.turn.output, Nat.le_trans h.turn.size t.size, fun k hk hn => (t.block k (.inl (by omega)) (Nat.lt_of_lt_of_le hk h.turn.size)).trans (h.turn.block k hk hn)⟩
def EwN (S : Sto) (T : Int) (w : World) (st : StS) (W : World) : Prop := ∃ S' pre don rest, EwI S T w st.1 st.2 W S' pre don rest
def EwO (S : Sto) (T : Int) (S' : Sto) : Prop := S'.b = S.b ∧ S'.grid = S.grid ∧ S'.ss.map con = (S.ss.map con).filterMap (evC T) ∧ S'.n = S.n - (((S.ss.map con).map (goneC T)).sum : Int) ∧ (∀ x ∈ S'.own, x ∈ S.own) ∧ ∀ e ∈ S'.ss, ∃ e' ∈ S.ss, e'.2.lv = e.2.lv
def EwPost (S : Sto) (T : Int) (w : World) (e : Ending) (w' : World) : Prop :=
  e = .returned (.int .i64 (((S.ss.map con).map (goneC T)).sum : Int)) ∧ ∃ S', EwO S T S' ∧ StAt w' S' ∧ Turn S.own w w'
/-- the slots in a round -/
abbrev EwT (S : Sto) (T : Int) (n : Nat) (k : List UInt8) (b : Nat) : Array Value := #[.pointer (some ⟨S.b, 0, none⟩), .int .i64 T, .pointer (some ⟨n, 0, none⟩), .pointer (some ⟨n + 1, 0, none⟩), .int .i64 0, .pointer (some ⟨n + 1 + 1, 0, none⟩), .string ⟨List.toArray k⟩, .pointer (some ⟨b, 0, none⟩),
  .pointer (some ⟨S.b, 0, none⟩), .pointer (some ⟨S.b, 0, none⟩), .pointer (some ⟨S.b, 1, none⟩), .func (.func 78) #[] #[.pointer (some ⟨n + 1 + 1 + 1, 0, none⟩), .pointer (some ⟨n + 1 + 1 + 1 + 1, 0, none⟩)], .string ⟨List.toArray k⟩, .pointer (some ⟨b, 0, none⟩), undef, undef, undef, undef, undef, undef, undef, undef, undef, undef, undef, undef, undef, undef, undef, undef, undef, undef, undef, undef, undef, undef, undef]
theorem goneC_le {S : Sto} {w : World} (h : StAt w S) (T : Int) : ∀ e ∈ S.ss, goneC T (con e) ≤ 10000 := fun e he => by
  rw [← gone_ev]
  have hs := h.ser e he
  have h1 := cntP_le (e.2.ps.filter fun e => decide (e.1 ≤ T)) (fun x hx => (hs.ok x (List.mem_filter.1 hx).1).len)
  have h2 := List.length_filter_le (fun e : Int × Pa => decide (e.1 ≤ T)) e.2.ps
  have h3 := hs.len
  omega
theorem sum_le14 {α : Type} (f : α → Nat) (B : Nat) : ∀ l : List α, (∀ x ∈ l, f x ≤ B) → (l.map f).sum ≤ l.length * B
  | [], _ => by simp
  | x :: t, h => by
    have h1 := h x (by simp)
    have h2 := sum_le14 f B t (fun y hy => h y (by simp [hy]))
    simp only [List.map_cons, List.sum_cons, List.length_cons, Nat.add_mul, Nat.one_mul]
    omega
theorem evO_own {s s' : Sr} {T : Int} (h : EvO s T s') : ∀ b ∈ s'.own, b ∈ s.own := fun b hb => by
  obtain ⟨h1, _, _, h4, h5⟩ := h
  simp only [Sr.own, List.mem_cons, List.mem_append, List.mem_map] at hb ⊢
  rcases hb with hb | hb | ⟨e, he, hb⟩
  · exact .inl (hb.trans h1)
  · exact .inr (.inl (h5 b hb))
  · rw [h4] at he
    exact .inr (.inr ⟨e, (List.mem_filter.1 he).1, hb⟩)
theorem evO_con {s s' : Sr} {T : Int} {k : List UInt8} (h : EvO s T s') : evC T (con (k, s)) = if s'.ps = [] then none else some (con (k, s')) := by
  obtain ⟨_, _, h3, h4, _⟩ := h
  have e : evP T (conP s.ps) = conP s'.ps := by rw [h4, conP_ev]
  have e2 : (conP s'.ps = []) ↔ s'.ps = [] := by unfold conP; simp
  unfold evC
  show (if evP T (conP s.ps) = [] then none else some (k, (s.ls, evP T (conP s.ps)))) = _
  rw [e]
  by_cases q : s'.ps = []
  · rw [if_pos (e2.2 q), if_pos q]
  · rw [if_neg (fun x => q (e2.1 x)), if_neg q]
    unfold con
    rw [h3]
theorem st_count {w : World} {S : Sto} (h : StAt w S) (m : Int) : StAt (w.setCell ⟨S.b, 2, none⟩ (.int .i64 m)) { S with n := m } := by
  obtain ⟨t1, t2⟩ := h.top_not
  have ht := Turn.set w S.b 2 (.int .i64 m)
  refine ⟨by simpa using blk_set14 h.blk 2 (.int .i64 m), h.map.turn ht (fun b hb q => t1 (List.mem_singleton.1 q ▸ hb)), fun e he => (h.ser e he).turn ht (fun b hb q => (t2 e he).1 (List.mem_singleton.1 q ▸ hb)) (fun b hb q => ?_), h.key, h.srt, h.len, h.dis⟩
  have := h.lab_not h e he b hb
  exact this (Sto.mem_own.2 (.inl (List.mem_singleton.1 q)))
/-- the round's end -/
theorem ew_step {S : Sto} {T : Int} {w : World} {k : List UInt8} {r : List EnS} {W : World} {S' : Sto} {pre don rest : List (List UInt8 × Sr)} {e0 : List UInt8 × Sr} (hi : EwI S T w k r W S' pre don (e0 :: rest)) (hH : StAt w S) {s1 : Sr} (ho : EvO e0.2 T s1) {W2 : World}
    (hser : StAt W2 { S' with ss := don ++ (e0.1, s1) :: rest }) (ht : Turn ((w.heap.size + 2) :: S'.own) W W2) (hg : Boxed W2 (w.heap.size + 2) 3 (.int .i64 ((((pre.map con).map (goneC T)).sum : Int) + (goneC T (con e0) : Int))))
    {S2 : Sto} {W3 : World} {don' : List (List UInt8 × Sr)} (h2 : S2.ss = don' ++ rest) (hd : don' = if s1.ps = [] then don else don ++ [(e0.1, s1)]) (hb : S2.b = S'.b) (hgr : S2.grid = S'.grid) (hnn : S2.n = S'.n) (hO : ∀ b ∈ S2.O, b ∈ S'.O) (hst : StAt W3 S2) (ht3 : Turn (S'.b :: S'.O) W2 W3) :
    EwI S T w e0.1 (entsS rest) W3 S2 (pre ++ [e0]) don' rest ∧ Step (w.heap.size + 5) [] [] W W3 := by
  have hlt := hH.lt
  have hnm : ∀ j, w.heap.size ≤ j → j ∉ S'.own := fun j hj hm => by have := hlt j (hi.own j hm); omega
  have hnt : ∀ j, w.heap.size ≤ j → j ∉ S'.b :: S'.O := fun j hj hm => hnm j hj (Sto.mem_own.2 (by rcases List.mem_cons.1 hm with q | q; exact .inl q; exact .inr (.inl q)))
  have hnb : ∀ j, w.heap.size ≤ j → j ≠ w.heap.size + 2 → j ∉ (w.heap.size + 2) :: S'.own := fun j hj hn hm => by
    rcases List.mem_cons.1 hm with q | q
    · exact hn q
    · exact hnm j hj q
  have hsr := hi.st.srt
  rw [hi.parts2] at hsr
  obtain ⟨p1, p2, p3⟩ := List.pairwise_append.1 hsr
  obtain ⟨p4, p5⟩ := List.pairwise_cons.1 p2
  have hsub : ∀ e ∈ don', e ∈ don ∨ e = (e0.1, s1) := fun e he => by
    rw [hd] at he
    split at he
    · exact .inl he
    · rcases List.mem_append.1 he with q | q
      · exact .inl q
      · exact .inr (by simpa using q)
  refine ⟨⟨by rw [hi.parts]; simp, h2, ?_, rfl, fun e he => ?_, p4, hb.trans hi.b, hgr.trans hi.grid, hnn.trans hi.n, fun x hx => ?_, fun e he => ?_, hst, ?_, ?_, ?_, ?_, ?_⟩, ?_⟩
  · rw [List.map_append, List.filterMap_append, ← hi.cn, hd]
    show _ = don.map con ++ List.filterMap (evC T) [con (e0.1, e0.2)]
    rw [List.filterMap_cons, evO_con ho]
    by_cases q : s1.ps = []
    · rw [if_pos q, if_pos q]; simp
    · rw [if_neg q, if_neg q]; simp
  · rcases hsub e he with q | rfl
    · exact stoS.asym (p3 e q e0 (by simp))
    · exact stoS.irr _
  · refine hi.own x (Sto.mem_own.2 ?_)
    rcases Sto.mem_own.1 hx with q | q | ⟨e, he, q⟩
    · exact .inl (q.trans hb)
    · exact .inr (.inl (hO x q))
    · rw [h2] at he
      rcases List.mem_append.1 he with he | he
      · rcases hsub e he with r | rfl
        · exact .inr (.inr ⟨e, by rw [hi.parts2]; simp [r], q⟩)
        · exact .inr (.inr ⟨e0, by rw [hi.parts2]; simp, evO_own ho x q⟩)
      · exact .inr (.inr ⟨e, by rw [hi.parts2]; simp [he], q⟩)
  · rw [h2] at he
    rcases List.mem_append.1 he with he | he
    · rcases hsub e he with r | rfl
      · exact hi.lvs e (by rw [hi.parts2]; simp [r])
      · obtain ⟨e', q1, q2⟩ := hi.lvs e0 (by rw [hi.parts2]; simp)
        exact ⟨e', q1, q2.trans ho.2.1.symm⟩
    · exact hi.lvs e (by rw [hi.parts2]; simp [he])
  · exact boxed_turn (boxed_turn hi.bs ht (hnb _ (Nat.le_refl _) (by omega))) ht3 (hnt _ (Nat.le_refl _))
  · exact boxed_turn (boxed_turn hi.bt ht (hnb _ (by omega) (by omega))) ht3 (hnt _ (by omega))
  · have e : (((pre ++ [e0]).map con).map (goneC T)).sum = ((pre.map con).map (goneC T)).sum + goneC T (con e0) := by simp
    rw [e, Int.natCast_add]
    exact boxed_turn hg ht3 (hnt _ (by omega))
  · exact boxed_turn (boxed_turn hi.bm ht (hnb _ (by omega) (by omega))) ht3 (hnt _ (by omega))
  · refine (hi.turn.trans ht (fun b hb => ?_)).trans ht3 (fun b hb => ?_)
    · rcases List.mem_cons.1 hb with rfl | q
      · exact .inr (by omega)
      · exact .inl (hi.own b q)
    · refine .inl (hi.own b (Sto.mem_own.2 ?_))
      rcases List.mem_cons.1 hb with q | q
      · exact .inl q
      · exact .inr (.inl q)
  · refine ⟨Nat.le_trans ht.size ht3.size, fun j o hj _ ho' => ht3.at (hnt j (by omega)) (ht.at (hnb j (by omega) (by omega)) ho'), fun _ q => (nomatch q), fun _ q => (nomatch q)⟩
set_option maxHeartbeats 8000000 in
theorem stEvict_any (S : Sto) (T : Int) (hn : -1000000000 ≤ S.n ∧ S.n ≤ 1000000000) (w : World) (h : StAt w S) :
    CallsIn Fence.wide 9 Tryz.prog 13 #[.pointer (some ⟨S.b, 0, none⟩), .int .i64 T] w (EwPost S T w) := by
  have HAb := Lib.hid (fun W => aboveS_any (some ⟨S.b, 1, none⟩) [] W)
  refine callsIn_of_wp_marks Tryz.func13 rfl trivial ?_ rfl
  simp only [Tryz.ntmps13, List.size_toArray, List.length_cons, List.length_nil, Nat.reduceAdd, Nat.reduceSub, Array.replicate_succ, Array.replicate_zero, List.push_toArray, List.append_toArray, List.nil_append, List.cons_append]
  have HH := Lib.hid h
  clear h
  gi_wp2_with fail
  refine ⟨trivial, (callsIn_wide.2 (HAb.out _)).mono ?_⟩
  rintro e w1 ⟨rfl, rfl⟩
  gi_wp2
  obtain ⟨W0, hW0⟩ : ∃ W0, ((((w.alloc (.cells #[.pointer (some ⟨S.b, 0, none⟩)] 27)).alloc (.cells #[.int .i64 T] 2)).alloc (.cells #[.int .i64 0] 3)).alloc (.cells #[.pointer (some ⟨S.b, 1, none⟩)] 138)).alloc (.cells #[.string ⟨List.toArray []⟩] 9) = W0 := ⟨_, rfl⟩
  rw [hW0]
  have hs0 : W0.heap.size = w.heap.size + 5 := by rw [← hW0]; simp
  have hb0 : Below w.heap.size w W0 := by rw [← hW0]; go_grown
  have tb0 : Turn S.own w W0 := Turn.of_below hb0 _
  have B0 : Boxed W0 w.heap.size 27 (.pointer (some ⟨S.b, 0, none⟩)) := by rw [← hW0]; exact ((((Boxed.new w _ _).alloc _).alloc _).alloc _).alloc _
  have B1 : Boxed W0 (w.heap.size + 1) 2 (.int .i64 T) := by
    rw [← hW0]
    have q := Boxed.new (w.alloc (.cells #[.pointer (some ⟨S.b, 0, none⟩)] 27)) 2 (.int .i64 T)
    rw [World.size_alloc] at q
    exact ((q.alloc _).alloc _).alloc _
  have B2 : Boxed W0 (w.heap.size + 2) 3 (.int .i64 0) := by
    rw [← hW0]
    have q := Boxed.new ((w.alloc (.cells #[.pointer (some ⟨S.b, 0, none⟩)] 27)).alloc (.cells #[.int .i64 T] 2)) 3 (.int .i64 0)
    rw [World.size_alloc, World.size_alloc] at q
    exact (q.alloc _).alloc _
  have B3 : Boxed W0 (w.heap.size + 3) 138 (.pointer (some ⟨S.b, 1, none⟩)) := by
    rw [← hW0]
    have q := Boxed.new (((w.alloc (.cells #[.pointer (some ⟨S.b, 0, none⟩)] 27)).alloc (.cells #[.int .i64 T] 2)).alloc (.cells #[.int .i64 0] 3)) 138 (.pointer (some ⟨S.b, 1, none⟩))
    rw [World.size_alloc, World.size_alloc, World.size_alloc] at q
    exact q.alloc _
  have B4 : Boxed W0 (w.heap.size + 4) 9 (.string ⟨List.toArray []⟩) := by
    rw [← hW0]
    have q := Boxed.new ((((w.alloc (.cells #[.pointer (some ⟨S.b, 0, none⟩)] 27)).alloc (.cells #[.int .i64 T] 2)).alloc (.cells #[.int .i64 0] 3)).alloc (.cells #[.pointer (some ⟨S.b, 1, none⟩)] 138)) 9 (.string ⟨List.toArray []⟩)
    rw [World.size_alloc, World.size_alloc, World.size_alloc, World.size_alloc] at q
    exact q
  clear hW0
  refine rangeG (F := Fence.wide) (n := 9) (γ := Unit) rfl (by omega) (gf := 78) (lb := #[.pointer (some ⟨w.heap.size + 1 + 1 + 1, 0, none⟩), .pointer (some ⟨w.heap.size + 1 + 1 + 1 + 1, 0, none⟩)]) rfl trivial (enters_of Tryz.func78 (by kernel_rfl) rfl)
    (aboveS_stops (fun _ : Unit => []) (w.heap.size + 3) (w.heap.size + 4) S.b 1 [] (entsS S.ss) W0 B4.cell) (Below.refl _ _) (fun _ => rfl)
    (fun st _ W => EwN S T w st W)
    (fun _ _ _ => False)
    () (fun st c A A' hi t => by obtain ⟨S', pre, don, rest, q⟩ := hi; exact ⟨S', pre, don, rest, q.same HH.out t (by omega)⟩)
    (fun cd c A A' hi t => hi)
    (fun _ hk => nomatch hk) ⟨S, [], [], S.ss, ⟨rfl, rfl, rfl, rfl, fun _ hx => (nomatch hx), fun e he => by
      rw [(HH.out.key e he).1]; exact ltS_text _, rfl, rfl, rfl, fun _ q => q, fun e he => ⟨e, he, rfl⟩, HH.out.below hb0, B0, B1, B2, B3, tb0⟩⟩
    ?pre
    (fun x a' _ => a' = { tmps := EwT S T w.heap.size x.1 x.2, defers := [] })
    (fun x a' A A' hx _ => hx) ?assign ?body ?done ?stop
  case pre =>
    rintro st c W ⟨S', pre, don, rest, q⟩
    refine ⟨q.bm.cell, S'.v, entsS S'.ss, S'.O, ?_, q.st.map, by unfold entsS; have := q.st.len; simp; omega, entsS_srt q.st.srt, ?_⟩
    · have := q.st.blk
      rw [q.b] at this
      exact (cell_of_row W S.b 1 _ _ _ this).trans rfl
    · rw [q.parts2, ← q.ents]
      have : entsS (don ++ rest) = entsS don ++ entsS rest := by simp [entsS]
      rw [this]
      refine hi_app stoS (fun x hx => ?_) (fun x hx => ?_)
      · obtain ⟨e, he, rfl⟩ := List.mem_map.1 hx
        exact q.kd e he
      · obtain ⟨e, he, rfl⟩ := List.mem_map.1 hx
        exact q.kr e he
  case assign =>
    rintro l' st x st' c W K hI hnx _ hK
    simp only [enS]
    have HI := Lib.hid hI
    clear hI
    gi_wp2
    exact hK _ _ (Step.refl (fun _ q => nomatch q)) HI.out rfl
  case body =>
    rintro l' ⟨k, r⟩ x st' c a' W hl _ _ ⟨S', pre, don, rest, hi⟩ hnx rfl
    obtain ⟨e0, rest', rfl⟩ : ∃ e0 rest', rest = e0 :: rest' := by
      cases rest with
      | nil =>
        have := hi.ents
        subst this
        cases hnx
      | cons e0 rest => exact ⟨e0, rest, rfl⟩
    have he := hi.ents
    dsimp only at he
    subst he
    obtain ⟨rfl, rfl⟩ : (e0.1, e0.2.sb) = x ∧ (e0.1, entsS rest') = st' := by simpa [nxS, entsS] using hnx
    clear hnx
    unfold EwT
    dsimp only
    have HI := Lib.hid hi
    have hm : e0 ∈ S'.ss := by rw [hi.parts2]; simp
    obtain ⟨gn, hgn⟩ : ∃ gn : Nat, ((pre.map con).map (goneC T)).sum = gn := ⟨_, rfl⟩
    have g0 := hi.bg
    rw [hgn] at g0
    have hS0 : W.drew.cell? ⟨w.heap.size + 1 + 1, 0, none⟩ = some (.int .i64 (gn : Int)) ∧ W.drew.frozen? ⟨w.heap.size + 1 + 1, 0, none⟩ = false ∧ W.drew.cell? ⟨w.heap.size + 1, 0, none⟩ = some (.int .i64 T) := ⟨g0.cell, g0.frozen, hi.bt.cell⟩
    have HE := Lib.hid (callsIn_wide.1 (evict_any e0.2 T W.drew ((hi.st.ser e0 hm).keep (fun _ _ => rfl))))
    have hgb : ((pre.map con).map (goneC T)).sum ≤ 1000000 := by
      have h1 := sum_le14 (goneC T) 10000 (pre.map con) (fun x hx => by
        obtain ⟨e, he, rfl⟩ := List.mem_map.1 hx
        exact goneC_le HH.out T e (by rw [hi.parts]; simp [he]))
      have h2 := HH.out.len
      rw [hi.parts, List.length_append] at h2
      simp only [List.length_map] at h1
      omega
    have hge := goneC_le hi.st T e0 hm
    have hgm : w.heap.size + 2 ∉ S'.own := fun q => by have := HH.out.lt _ (hi.own _ q); omega
    clear hi
    gi_wp2_with fail
    refine region_anyM (S := fun u => u.cell? ⟨w.heap.size + 1 + 1, 0, none⟩ = some (.int .i64 (gn : Int)) ∧ u.frozen? ⟨w.heap.size + 1 + 1, 0, none⟩ = false ∧ u.cell? ⟨w.heap.size + 1, 0, none⟩ = some (.int .i64 T)) 5 (by kernel_rfl) (fun hS => ?_) hS0
    refine anyM_d 0 [0, 4, 5] hS ?_
    refine anyM_d 1 [1, 3, 4, 5] hS ?_
    refine anyM_d 2 [2, 3, 4, 5] hS ?_
    refine anyM_o 3 (fun K hK => ?_)
    go_simp
    refine ⟨trivial, ?_⟩
    refine (callsIn_wide.2 HE.out).mono ?_
    rintro e W1 ⟨rfl, s1, hev, hse, htu⟩
    rw [gone_ev]
    have htW : Turn e0.2.own W W1 := ⟨htu.os, htu.tape, htu.output, htu.size, htu.block⟩
    have hown0 : ∀ b ∈ e0.2.own, b ∈ S'.own := fun b hb => Sto.mem_own.2 (.inr (.inr ⟨e0, hm, hb⟩))
    have hnm : ∀ j, w.heap.size ≤ j → j ∉ e0.2.own := fun j hj q => by have := HH.out.lt _ (HI.out.own _ (hown0 _ q)); omega
    have hst1 : StAt W1 { S' with ss := don ++ (e0.1, s1) :: rest' } := st_set HI.out.st HI.out.parts2 hse hev.1 hev.2.2.1 htW (fun b hb => .inl (evO_own hev b hb))
    have g1 : Boxed W1 (w.heap.size + 2) 3 (.int .i64 (gn : Int)) := boxed_turn g0 htW (hnm _ (by omega))
    have b1 : Boxed W1 (w.heap.size + 1) 2 (.int .i64 T) := boxed_turn HI.out.bt htW (hnm _ (by omega))
    have hS1 : W1.cell? ⟨w.heap.size + 1 + 1, 0, none⟩ = some (.int .i64 (gn : Int)) ∧ W1.frozen? ⟨w.heap.size + 1 + 1, 0, none⟩ = false ∧ W1.cell? ⟨w.heap.size + 1, 0, none⟩ = some (.int .i64 T) := ⟨g1.cell, g1.frozen, b1.cell⟩
    generalize hgc : goneC T (con e0) = gc at *
    obtain ⟨W2, hW2⟩ : ∃ W2, W2 = W1.setCell ⟨w.heap.size + 1 + 1, 0, none⟩ (.int .i64 ((gn : Int) + (gc : Int))) := ⟨_, rfl⟩
    have t2 : Turn ((w.heap.size + 2) :: S'.own) W W2 := by
      rw [hW2]
      exact (htW.mono (fun b hb => by simp [hown0 b hb])).trans (Turn.set W1 (w.heap.size + 1 + 1) 0 _) (fun b hb => .inl (by rw [List.mem_singleton.1 hb]; exact List.mem_cons_self ..))
    have hown1 : ∀ b ∈ ({ S' with ss := don ++ (e0.1, s1) :: rest' } : Sto).own, b ∈ S'.own := fun b hb => by
      rcases set_own (w := W) HI.out.parts2 (fun x hx => .inl (evO_own hev x hx)) b hb with q | q
      · exact q
      · have := hst1.lt b hb
        rcases Sto.mem_own.1 hb with r | r | ⟨e, r1, r2⟩
        · exact Sto.mem_own.2 (.inl r)
        · exact Sto.mem_own.2 (.inr (.inl r))
        · rcases List.mem_append.1 r1 with r1 | r1
          · exact Sto.mem_own.2 (.inr (.inr ⟨e, by rw [HI.out.parts2]; simp [r1], r2⟩))
          · rcases List.mem_cons.1 r1 with rfl | r1
            · exact hown0 b (evO_own hev b r2)
            · exact Sto.mem_own.2 (.inr (.inr ⟨e, by rw [HI.out.parts2]; simp [r1], r2⟩))
    have hst2 : StAt W2 { S' with ss := don ++ (e0.1, s1) :: rest' } := by
      rw [hW2]
      refine hst1.turn (Turn.set W1 (w.heap.size + 1 + 1) 0 _) (fun b hb q => hgm ?_) (fun e he b hb q => ?_)
      · rw [List.mem_singleton.1 q] at hb
        exact hown1 _ hb
      · rw [List.mem_singleton.1 q] at hb
        obtain ⟨cs, q2⟩ := row_lt14 (hst1.ser e he).lab _ hb
        have := q2.symm.trans g1
        simp [TLab] at this
    have hg2 : Boxed W2 (w.heap.size + 2) 3 (.int .i64 ((gn : Int) + (gc : Int))) := by rw [hW2]; exact g1.set _
    have hw : wrap64 ((gn : Int) + (gc : Int)) = (gn : Int) + (gc : Int) := by rw [wrap64]; omega
    have hwI : IntKind.i64.wrap ((gn : Int) + (gc : Int)) = (gn : Int) + (gc : Int) := by rw [IntKind.wrap_i64]; omega
    have bs2 : Boxed W2 w.heap.size 27 (.pointer (some ⟨S.b, 0, none⟩)) := boxed_turn HI.out.bs t2 (fun q => by
      rcases List.mem_cons.1 q with q | q
      · omega
      · have := HH.out.lt _ (HI.out.own _ q); omega)
    have s1b : s1.sb = e0.2.sb := hev.1
    have HN := Lib.hid (noneI_any s1.sb 1 s1.pv (entsI s1.ps) s1.O W2 (by
      have := (hst2.ser (e0.1, s1) (by simp)).blk
      exact (cell_of_row W2 s1.sb 1 _ _ _ this).trans rfl) (hst2.ser (e0.1, s1) (by simp)).map)
    rw [s1b] at HN
    have HDr := Lib.hid (st_drop_call hst2 (A := don) (B := rest') rfl)
    have hST : ∀ (S2 : Sto) (W3 : World) (don' : List (List UInt8 × Sr)), S2.ss = don' ++ rest' → (don' = if s1.ps = [] then don else don ++ [(e0.1, s1)]) → S2.b = S'.b → S2.grid = S'.grid → S2.n = S'.n → (∀ b ∈ S2.O, b ∈ S'.O) → StAt W3 S2 → Turn (S'.b :: S'.O) W2 W3 →
        EwI S T w e0.1 (entsS rest') W3 S2 (pre ++ [e0]) don' rest' ∧ Step (w.heap.size + 5) [] [] W W3 := fun S2 W3 don' h2 hd hb hgr hnn hO hst ht3 => ew_step HI.out HH.out hev hst2 t2 (by rw [hgn, hgc]; exact hg2) h2 hd hb hgr hnn hO hst ht3
    have HST := Lib.hid hST
    clear hST
    have HS2 := Lib.hid hst2
    have hSb : S'.b = S.b := HI.out.b
    have bs2c := bs2.cell
    dsimp only
    refine hK _ _ hS1 ?_
    clear hK K hS hS0 hst1 hst2 htW htu hse g0 g1 b1 HE t2 hg2 bs2 hown1 hown0 hnm hgm
    refine anyM_d 4 [4, 5] (v := .int .i64 ((gn : Int) + (gc : Int))) hS1 ?_
    refine anyM_l (fun K hK => ?_)
    go_simp
    rw [← hW2]
    refine hK _ _ ?_
    clear hK K hS1 hW2
    refine anyIn_done (by kernel_rfl) ?_ _
    gi_wp2_with fail
    refine ⟨trivial, (callsIn_wide.2 HN.out).mono ?_⟩
    rintro e W5 ⟨rfl, rfl⟩
    by_cases hp : s1.ps = []
    · have he : (entsI s1.ps).isEmpty = true := by rw [hp]; rfl
      rw [he]
      rw [hSb] at HDr
      gi_wp2_with fail
      refine ⟨trivial, (callsIn_wide.2 HDr.out).mono ?_⟩
      rintro e W6 ⟨⟨r0, rfl⟩, v', O', d1, d2, d3⟩
      have HF := Lib.hid (HST.out { S' with b := S.b, v := v', O := O', ss := don ++ rest' } W6 don rfl (by rw [if_pos hp]) hSb.symm rfl rfl d1 d2 (by rw [hSb]; exact d3))
      clear HST HDr HN d1 d2 d3
      gi_wp2_with fail
      show ∃ c', _ ∧ Step W0.heap.size _ _ _ _
      rw [hs0]
      exact ⟨(), ⟨_, _, _, _, HF.out.1⟩, HF.out.2⟩
    · have he : (entsI s1.ps).isEmpty = false := by
        cases q : s1.ps with
        | nil => exact absurd q hp
        | cons _ _ => rfl
      rw [he]
      have HF := Lib.hid (HST.out { S' with ss := don ++ (e0.1, s1) :: rest' } W2 (don ++ [(e0.1, s1)]) (by simp) (by rw [if_neg hp]) rfl rfl rfl (fun _ q => q) HS2.out (Turn.refl _ _))
      clear HST HDr HN
      gi_wp2_with fail
      show ∃ c', _ ∧ Step W0.heap.size _ _ _ _
      rw [hs0]
      exact ⟨(), ⟨_, _, _, _, HF.out.1⟩, HF.out.2⟩
  case done =>
    rintro D ⟨k, r⟩ c W hD hnx ⟨S', pre, don, rest, hi⟩ _ hK
    have hr : rest = [] := by
      cases r with
      | nil =>
        have := hi.ents
        dsimp only at this
        unfold entsS at this
        simpa using this
      | cons _ _ => cases hnx
    subst hr
    have hpre : S.ss = pre := by have := hi.parts; rwa [List.append_nil] at this
    have hdon : S'.ss = don := by have := hi.parts2; rwa [List.append_nil] at this
    obtain ⟨gn, hgn⟩ : ∃ gn : Nat, ((pre.map con).map (goneC T)).sum = gn := ⟨_, rfl⟩
    have g0 := hi.bg
    rw [hgn] at g0
    have g1 := g0.cell
    have x1 := hi.bs.cell
    have hSb := hi.b
    have hb := hi.st.blk
    rw [hSb, hi.grid, hi.n] at hb
    have n1 : W.cell? ⟨S.b, 2, none⟩ = some (.int .i64 S.n) := (cell_of_row W S.b 2 _ _ _ hb).trans rfl
    have n2 : W.frozen? ⟨S.b, 2, none⟩ = false := frozen_of_row W S.b 2 _ _ hb
    have hgb : gn ≤ 1000000 := by
      rw [← hgn]
      have h1 := sum_le14 (goneC T) 10000 (pre.map con) (fun x hx => by
        obtain ⟨e, he, rfl⟩ := List.mem_map.1 hx
        exact goneC_le HH.out T e (by rw [hpre]; exact he))
      have h2 := HH.out.len
      rw [hpre] at h2
      simp only [List.length_map] at h1
      omega
    have hw : wrap64 (S.n - (gn : Int)) = S.n - (gn : Int) := by rw [wrap64]; omega
    have hwI : IntKind.i64.wrap (S.n - (gn : Int)) = S.n - (gn : Int) := by rw [IntKind.wrap_i64]; omega
    have hSlt : S.b < w.heap.size := HH.out.lt _ (Sto.mem_own.2 (.inl rfl))
    have hne : S.b ≠ w.heap.size + 1 + 1 := by omega
    have hc3 : (W.setCell ⟨S.b, 2, none⟩ (.int .i64 (S.n - (gn : Int)))).cell? ⟨w.heap.size + 1 + 1, 0, none⟩ = some (.int .i64 (gn : Int)) := (World.cell?_of_block (a := ⟨w.heap.size + 1 + 1, 0, none⟩) (Below.heap_setCell _ _ _ _ (show w.heap.size + 1 + 1 ≠ S.b by omega))).trans g1
    have hK2 : ((W.setCell ⟨S.b, 2, none⟩ (.int .i64 (S.n - (gn : Int)))).drew).heap[D]? = some (.deferred (some [])) := (Below.heap_setCell _ _ _ _ (show D ≠ S.b by omega)).trans hK
    have HF : Hid (EwPost S T w (.returned (.int .i64 (gn : Int))) (((W.setCell ⟨S.b, 2, none⟩ (.int .i64 (S.n - (gn : Int)))).drew).putObj D (.deferred none))) := by
      have h3 := st_count hi.st (S.n - (gn : Int))
      rw [hSb] at h3
      have hnm : D ∉ S'.own := fun q => by have := HH.out.lt D (hi.own D q); omega
      have hmo : ∀ b, b ∈ ({ S' with b := S.b, n := S.n - (gn : Int) } : Sto).own ↔ b ∈ S'.own := fun b => by simp [Sto.own, hSb]
      have ht : Turn S.own w ((W.setCell ⟨S.b, 2, none⟩ (.int .i64 (S.n - (gn : Int)))).drew) := (hi.turn.trans (Turn.set W S.b 2 _) (fun b hb => .inl (Sto.mem_own.2 (.inl (List.mem_singleton.1 hb))))).drew
      refine ⟨by rw [hpre, hgn], { S' with b := S.b, n := S.n - (gn : Int) }, ⟨rfl, hi.grid, by show S'.ss.map con = _; rw [hdon, hi.cn, hpre], by show S.n - (gn : Int) = _; rw [hpre, hgn], fun x hx => hi.own x ((hmo x).1 hx), hi.lvs⟩, h3.keep (fun b hb => ?_), ⟨ht.os, ht.tape, ht.output, by have := ht.size; simpa using this, fun k hk hn => (World.putObj_heap_other (by omega)).trans (ht.block k hk hn)⟩⟩
      refine (World.putObj_heap_other (fun e => ?_)).trans rfl
      subst e
      rcases hb with hb | ⟨e, he, hb⟩
      · exact hnm ((hmo b).1 hb)
      · obtain ⟨e', he', q⟩ := hi.lvs e he
        rw [← q] at hb
        have := HH.out.lab_lt e' he' b hb; omega
    clear hi g0 hb hK
    gi_wp2
    gi_region
    all_goals
      gi_wp2
      refine ⟨by simp, .inl ⟨_, _, rfl, run_takeDeferred hK2, ?_⟩⟩
      refine ⟨_, by simp [results, Tryz.results13, go_sem], HF.out⟩
  case stop =>
    rintro D cd c W hD hf
    exact hf.elim
end Go.Proofs.YtedcdhngiofpjaaGreatDoor
