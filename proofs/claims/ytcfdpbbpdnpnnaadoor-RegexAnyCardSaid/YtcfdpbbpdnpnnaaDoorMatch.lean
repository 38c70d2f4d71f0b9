/- regex: Match. -/
import Derived.Test.YtcfdpbbpdnpnnaaDoorWalk
import Derived.Test.YtcfdpbbpdnpnnaaDoorComp
namespace Go.Proofs.YtcfdpbbpdnpnnaaDoor
open Go Go.Proofs Go.RowKit Go.Shelf
set_option maxRecDepth 100000
attribute [local go_sem] Oper.semAt_some
theorem eq_words (w : World) (a0 a1 a2 a3 b0 b1 b2 b3 : Int) : (Op.equalIn 10000 45 (.agg #[.int .u64 a0, .int .u64 a1, .int .u64 a2, .int .u64 a3]) (.agg #[.int .u64 b0, .int .u64 b1, .int .u64 b2, .int .u64 b3])).run Tryd.prog w = .ok (a0 == b0 && (a1 == b1 && (a2 == b2 && a3 == b3))) w := by
 have hs : ∀ w, (sizeOf 42).run Tryd.prog w = .ok 1 w := fun w => by kernel_rfl
 have p0 : ∀ w x y z t, (part 42 #[x, y, z, t] 0).run Tryd.prog w = .ok x w := fun w x y z t => by kernel_rfl
 have p1 : ∀ w x y z t, (part 42 #[x, y, z, t] 1).run Tryd.prog w = .ok y w := fun w x y z t => by kernel_rfl
 have p2 : ∀ w x y z t, (part 42 #[x, y, z, t] 2).run Tryd.prog w = .ok z w := fun w x y z t => by kernel_rfl
 have p3 : ∀ w x y z t, (part 42 #[x, y, z, t] 3).run Tryd.prog w = .ok t w := fun w x y z t => by kernel_rfl
 have e : ∀ w a b, (Op.equalIn 9999 42 (.int .u64 a) (.int .u64 b)).run Tryd.prog w = .ok (a == b) w := fun w a b => run_equalIn_int w 9998 42 .u64 .u64 a b Tryd.underlying42
 show (Op.equalIn (9999 + 1) 45 _ _).run Tryd.prog w = _
 unfold Op.equalIn
 simp only [Sem.run_bind, run_underlying Tryd.underlying45, Result.andThen_ok, hs]
 rw [show (forIn (m := Sem) [:4] = forIn (m := Sem) (β := Option Bool × Unit) [0, 1, 2, 3]) from ?_]
 ·
  simp only [List.forIn_cons, List.forIn_nil, Sem.run_bind, Sem.run_ite, Result.andThen_ok, p0, e]
  generalize h0 : (a0 == b0) = r0
  generalize h1 : (a1 == b1) = r1
  generalize h2 : (a2 == b2) = r2
  generalize h3 : (a3 == b3) = r3
  cases r0 <;> cases r1 <;> cases r2 <;> cases r3 <;> simp [p1, p2, p3, e, h1, h2, h3, -beq_eq_false_iff_ne, -beq_iff_eq]
 ·
  funext b f
  rw [Std.Legacy.Range.forIn_eq_forIn_range']
  rfl
theorem net_bits (p : Rx.Pt) : (∀ i, (Rx.beginN p).testBit i = true → i < (Rx.netN p).length) ∧ (∀ i j, Rx.edge (Rx.netN p) i j → j < (Rx.netN p).length) := by
 have g := Rx.build_good p [(0, 0)]
 have hs := g.sits
 have k0 : (Rx.build p [(0, 0)]).2[0]? = some (0, 0) := g.keeps 0 (by simp)
 unfold Rx.beginN Rx.netN
 generalize Rx.build p [(0, 0)] = X at *
 obtain ⟨x, n⟩ := X
 simp only at *
 have l1 : ([(0, 0)] : Rx.Nt).length = 1 := rfl
 rw [l1] at hs
 have hpos : 0 < n.length := by
  have := (List.getElem?_eq_some_iff.1 k0).1; exact this
 rw [Rx.joinN_length]
 constructor
 ·
  intro i h
  have h2 : x.first.testBit i = true ∨ i = 0 := by
   revert h
   cases x.none
   ·
    exact fun q => Or.inl q
   ·
    simp only [if_true, Rx.or_bit, Rx.one_bit]; exact id
  rcases h2 with h2 | h2
  ·
   exact (hs.first i h2).2
  ·
   omega
 ·
  intro i j h
  rcases Rx.edge_join.1 h with e | ⟨_, _, e⟩
  ·
   obtain ⟨y, hy, hj⟩ := e
   rcases Nat.eq_zero_or_pos i with h0 | h0
   ·
    subst h0; rw [k0] at hy; cases hy; simp at hj
   ·
    exact (hs.edges i j h0 (List.getElem?_eq_some_iff.1 hy).1 ⟨y, hy, hj⟩).2
  ·
   have := Rx.one_bit.1 e; omega
def zeroW (x : Nat) : Bool := word x 0 == 0 && (word x 1 == 0 && (word x 2 == 0 && word x 3 == 0))
theorem zero_bits {x : Nat} (h : zeroW x = true) : ∀ i, i < 256 → x.testBit i = false := by
 unfold zeroW at h
 simp only [Bool.and_eq_true, beq_iff_eq] at h
 obtain ⟨h0, h1, h2, h3⟩ := h
 intro i hi
 have key : ∀ q, q < 4 → wordN x q = 0 := by
  intro q hq
  have hc : q = 0 ∨ q = 1 ∨ q = 2 ∨ q = 3 := by omega
  unfold word at h0 h1 h2 h3
  rcases hc with rfl | rfl | rfl | rfl <;> omega
 have hw := wordN_bit x (i / 64) (i % 64) (Nat.mod_lt _ (by decide))
 rw [key (i / 64) (by omega), Nat.zero_testBit, Nat.div_add_mod] at hw
 exact hw.symm
theorem dead_end (n : Rx.Nt) (x : Nat) (h : zeroW x = true) (u : List UInt8) : (Rx.nowN n x u).testBit 0 = false := by
 have hz := zero_bits h
 cases u with
 | nil => exact hz 0 (by decide)
 | cons c u =>
  have he : Rx.elems x = [] := by
   apply List.eq_nil_iff_forall_not_mem.2
   intro i hi
   have := Rx.elems_mem.1 hi
   rw [hz i this.1] at this; cases this.2
  have hb : ∀ c, Rx.behindN n 0 c = 0 := fun c => by unfold Rx.behindN Rx.elems; rw [Rx.bl_zero]; rfl
  have h0 : ∀ u : List UInt8, Rx.nowN n 0 u = 0 := by
   intro u
   induction u with
   | nil => rfl
   | cons c u ih => show Rx.nowN n (Rx.behindN n 0 c) u = 0; rw [hb]; exact ih
  show (Rx.nowN n (Rx.behindN n x c) u).testBit 0 = false
  have : Rx.behindN n x c = 0 := by unfold Rx.behindN; rw [he]; rfl
  rw [this, h0]; rfl
theorem shas_w (m x : Nat) (hx : x < 256) (w : World) :
  Calls Tryd.prog 24 #[.agg #[.int .u64 (word m 0), .int .u64 (word m 1), .int .u64 (word m 2), .int .u64 (word m 3)], .int .u8 (x : Int)] w fun e w' => e = .returned (.bool (m.testBit x)) ∧ Below w.heap.size w w' := shas_any m x hx w
theorem rxwalkin (rb : Nat) (s : ByteArray) (w : World) :
  CallsIn Fence.wide 8 Tryd.prog 23 #[.pointer (some ⟨rb, 0, none⟩), .string s] w fun e w' => e = .returned (.func (.func 33) #[] #[.pointer (some ⟨w.heap.size, 0, none⟩), .pointer (some ⟨w.heap.size + 1, 0, none⟩)]) ∧ w' = (w.alloc (.cells #[.pointer (some ⟨rb, 0, none⟩)] 23)).alloc (.cells #[.string s] 9) := by
 refine callsIn_of_wp Tryd.func23 rfl trivial ?_ rfl
 simp only [Tryd.ntmps23, List.size_toArray, List.length_cons, List.length_nil, Nat.reduceAdd, Nat.reduceSub, Array.replicate_succ, Array.replicate_zero, List.push_toArray, List.append_toArray, List.nil_append, List.cons_append]
 gi_wp2
 go_ret
 exact ⟨rfl, rfl⟩
/-- between two rounds; x: what the walk's variable holds -/
structure MI (w W0 : World) (x : Nat) (W : World) : Prop where
 sz : W0.heap.size ≤ W.heap.size
 b0 : At W w.heap.size [.bool false]
 b1 : At W (w.heap.size + 1) [.int .u64 (word (x) 0), .int .u64 (word (x) 1), .int .u64 (word (x) 2), .int .u64 (word (x) 3)]
 gr : Below w.heap.size w W
theorem MI.low {w W0 W W' : World} {x : Nat} (h : MI w W0 x W) (hz : w.heap.size + 1 < W0.heap.size) (hb : Below W0.heap.size W W') : MI w W0 x W' :=
 ⟨Nat.le_trans h.sz hb.size, h.b0.low hb (by omega), h.b1.low hb (by omega), h.gr.trans (hb.mono (by omega))⟩
def lastS (pre : List Nat) : Nat := pre.getLast?.getD 0
theorem lastS_snoc (pre : List Nat) (x : Nat) : lastS (pre ++ [x]) = x := by unfold lastS; simp
theorem states_last (n : Rx.Nt) (bg : Nat) (l : List UInt8) : lastS (statesL n bg l) = Rx.nowN n bg l := by
 unfold lastS statesL
 rw [List.range_succ, List.map_append]
 simp
theorem pre_last (n : Rx.Nt) (bg : Nat) (l : List UInt8) (pre : List Nat) (h : pre <+: statesL n bg l) (hne : pre ≠ []) : ∃ k, k ≤ l.length ∧ lastS pre = Rx.nowN n bg (l.take k) := by
 obtain ⟨t, ht⟩ := h
 have hp : 0 < pre.length := List.length_pos_iff.2 hne
 have hlen : pre.length ≤ l.length + 1 := by rw [← states_len n bg l, ← ht, List.length_append]; omega
 refine ⟨pre.length - 1, by omega, ?_⟩
 have h1 : pre[pre.length - 1]? = (statesL n bg l)[pre.length - 1]? := by rw [← ht, List.getElem?_append_left (by omega)]
 unfold lastS
 rw [List.getLast?_eq_getElem?, h1]
 unfold statesL
 rw [List.getElem?_map, List.getElem?_range (by omega)]; rfl
theorem now_split (n : Rx.Nt) (bg : Nat) (l : List UInt8) (k : Nat) : Rx.nowN n bg l = Rx.nowN n (Rx.nowN n bg (l.take k)) (l.drop k) := by
 unfold Rx.nowN
 rw [← List.foldl_append, List.take_append_drop]
set_option maxHeartbeats 4000000 in
theorem match_any (base rb : Nat) (s sp : ByteArray) (l lp : List UInt8) (hud : s.data.toList = l) (hl : l.length ≤ 1000) (p : Rx.Pt) (w : World) (hX : RxAt base rb sp lp p w) :
  Calls Tryd.prog 12 #[.pointer (some ⟨rb, 0, none⟩), .string s] w fun e w' => e = .returned (.bool (Rx.matchN p l)) ∧ Below w.heap.size w w' := by
 obtain ⟨g, cap, _, aX, N⟩ := hX
 obtain ⟨hb, he⟩ := net_bits p
 have hres : Rx.matchN p l = (Rx.nowN (Rx.netN p) (Rx.beginN p) l).testBit 0 := rfl
 have HRES := Lib.hid hres
 have hlt := N.tab.lt
 have hrb := aX.lt
 have hg := (N.lt g rfl).2
 generalize Rx.netN p = n at *
 generalize Rx.beginN p = bg at *
 clear hres
 refine (callsIn_wide (n := 9)).1 ?_
 refine callsIn_of_wp_marks Tryd.func12 rfl trivial ?_ rfl
 simp only [Tryd.ntmps12, List.size_toArray, List.length_cons, List.length_nil, Nat.reduceAdd, Nat.reduceSub, Array.replicate_succ, Array.replicate_zero, List.push_toArray, List.append_toArray, List.nil_append, List.cons_append]
 have HB := Lib.hid hb
 have HE := Lib.hid he
 have HX := Lib.hid aX
 have HN := Lib.hid N
 have HUD := Lib.hid hud
 clear hb he aX N hud
 gi_wp2
 refine ⟨trivial, (rxwalkin rb s _).mono ?_⟩
 rintro e w1 ⟨rfl, rfl⟩
 gi_wp2
 obtain ⟨W0, hW0⟩ : ∃ W0, ((((w.alloc (.cells #[.bool false] 4)).alloc (.cells #[.int .u64 0, .int .u64 0, .int .u64 0, .int .u64 0] 45)).alloc (.cells #[.pointer (some ⟨rb, 0, none⟩)] 23)).alloc (.cells #[.string s] 9)) = W0 := ⟨_, rfl⟩
 have hlp : Below w.heap.size w W0 := by rw [← hW0]; go_grown
 have hsz : W0.heap.size = w.heap.size + 4 := by rw [← hW0]; simp
 have b00 : At W0 w.heap.size [.bool false] := by rw [← hW0]; exact (((At.new _ _ _).alloc _).alloc _).alloc _
 have b10 : At W0 (w.heap.size + 1) [.int .u64 (word (0) 0), .int .u64 (word (0) 1), .int .u64 (word (0) 2), .int .u64 (word (0) 3)] := by
  simp only [word_zero]
  rw [← hW0]
  have h := ((At.new (w.alloc (.cells #[.bool false] 4)) #[.int .u64 0, .int .u64 0, .int .u64 0, .int .u64 0] 45).alloc (.cells #[.pointer (some ⟨rb, 0, none⟩)] 23)).alloc (.cells #[.string s] 9)
  simpa using h
 have bR0 : At W0 (w.heap.size + 1 + 1) [.pointer (some ⟨rb, 0, none⟩)] := by
  rw [← hW0]
  have h := (At.new ((w.alloc (.cells #[.bool false] 4)).alloc (.cells #[.int .u64 0, .int .u64 0, .int .u64 0, .int .u64 0] 45)) #[.pointer (some ⟨rb, 0, none⟩)] 23).alloc (.cells #[.string s] 9)
  simpa using h
 have bS0 : At W0 (w.heap.size + 1 + 1 + 1) [.string s] := by
  rw [← hW0]
  have h := At.new (((w.alloc (.cells #[.bool false] 4)).alloc (.cells #[.int .u64 0, .int .u64 0, .int .u64 0, .int .u64 0] 45)).alloc (.cells #[.pointer (some ⟨rb, 0, none⟩)] 23)) #[.string s] 9
  simpa using h
 have aX0 := HX.out.below hlp
 have N0 := HN.out.below hlp
 have hI0 : MI w W0 (lastS []) W0 := ⟨Nat.le_refl _, b00, b10, hlp⟩
 rw [hW0]
 clear hW0
 have hseq : SeqStopsB Fence.wide (9 - 1) Tryd.prog 33 #[.pointer (some ⟨w.heap.size + 1 + 1, 0, none⟩), .pointer (some ⟨w.heap.size + 1 + 1 + 1, 0, none⟩)] (fun x : Nat => #[.agg #[.int .u64 (word (x) 0), .int .u64 (word (x) 1), .int .u64 (word (x) 2), .int .u64 (word (x) 3)]]) (KC (w.heap.size + 1)) (fun ys => ys = statesL n bg l) (fun pre => pre <+: statesL n bg l) (l.length + 1) W0 :=
  fun l' J Jx W hW hJ hY h0 => walk1_in base rb (w.heap.size + 1 + 1) (w.heap.size + 1 + 1 + 1) (w.heap.size + 1) g cap s sp l HUD.out hl n bg (fun i _ h => HB.out i h) HE.out (by omega) (by omega) (by omega) (by omega) (by omega) l' J Jx W hJ hY (bR0.below hW) (bS0.below hW) (aX0.below hW) (N0.below hW) (by have := hW.size; omega) h0
 refine rangeB (F := Fence.wide) (n := 9) rfl (by omega) (gf := 33) (lb := #[.pointer (some ⟨w.heap.size + 1 + 1, 0, none⟩), .pointer (some ⟨w.heap.size + 1 + 1 + 1, 0, none⟩)]) rfl trivial (enters_of Tryd.func33 (by kernel_rfl) rfl)
  hseq (fun h k => KC.trans h k) (fun W q o o' hq h ho => ⟨by simp, fun k c T fz hk h2 => by rw [World.putObj_heap_other (fun e => by subst e; rw [h2] at h; cases h; cases ho)]; exact h2⟩) (Below.refl _ _) (fun _ => rfl)
  (fun pre W => MI w W0 (lastS pre) W)
  (fun c pre W => c = .ret ∧ MI w W0 (lastS pre) W ∧ zeroW (lastS pre) = true ∧ pre ≠ [])
  (fun s A B h hb => h.low (by omega) hb)
  (fun c s A B h hb => ⟨h.1, h.2.1.low (by omega) hb, h.2.2⟩) hI0
  (fun pre x a' W => MI w W0 x W ∧ a' = { tmps := #[.pointer (some ⟨rb, 0, none⟩), .string s, undef, undef, .pointer (some ⟨w.heap.size, 0, none⟩), .pointer (some ⟨w.heap.size + 1, 0, none⟩), .pointer (some ⟨rb, 0, none⟩), .string s, .func (.func 33) #[] #[.pointer (some ⟨w.heap.size + 1 + 1, 0, none⟩), .pointer (some ⟨w.heap.size + 1 + 1 + 1, 0, none⟩)], .agg #[.int .u64 (word (x) 0), .int .u64 (word (x) 1), .int .u64 (word (x) 2), .int .u64 (word (x) 3)], undef, undef, undef, undef, undef], defers := [] })
  (fun s x a' A B h hb => ⟨h.1.low (by omega) hb, h.2⟩) ?assign ?body ?done ?stop
 case assign =>
  rintro l' pre x W K hI hK
  obtain ⟨isz, i0, i1, igr⟩ := hI
  have y0 := i1.cell 0 _ rfl
  have y1 := i1.cell 1 _ rfl
  have y2 := i1.cell 2 _ rfl
  have y3 := i1.cell 3 _ rfl
  have z0 := i1.free 0 _ rfl
  have z1 := i1.free 1 _ rfl
  have z2 := i1.free 2 _ rfl
  have z3 := i1.free 3 _ rfl
  have ny := i1.lt
  gi_wp2
  have b1 := (((i1.set 0 (.int .u64 (word x 0))).set 1 (.int .u64 (word x 1))).set 2 (.int .u64 (word x 2))).set 3 (.int .u64 (word x 3))
  have b0 := (((i0.far (b' := w.heap.size + 1) (j := 0) (by omega) (.int .u64 (word x 0))).far (b' := w.heap.size + 1) (j := 1) (by omega) (.int .u64 (word x 1))).far (b' := w.heap.size + 1) (j := 2) (by omega) (.int .u64 (word x 2))).far (b' := w.heap.size + 1) (j := 3) (by omega) (.int .u64 (word x 3))
  have gr := (((igr.setCell (p := ⟨w.heap.size + 1, 0, none⟩) (by dsimp only; omega) (.int .u64 (word x 0))).setCell (p := ⟨w.heap.size + 1, 1, none⟩) (by dsimp only; omega) (.int .u64 (word x 1))).setCell (p := ⟨w.heap.size + 1, 2, none⟩) (by dsimp only; omega) (.int .u64 (word x 2))).setCell (p := ⟨w.heap.size + 1, 3, none⟩) (by dsimp only; omega) (.int .u64 (word x 3))
  exact hK _ _ ⟨by simp, fun k o hk h0 ho => (set4_block (by omega)).trans h0⟩ ⟨by simp, fun k c T fz hk h0 => (set4_block hk).trans h0⟩ ⟨⟨by simpa using isz, b0, b1, gr⟩, rfl⟩
 case body =>
  rintro l' pre x a' W ⟨hI, rfl⟩ hlen
  have HI := Lib.hid hI
  obtain ⟨isz, i0, i1, igr⟩ := hI
  have y0 := i1.cell 0 _ rfl
  have y1 := i1.cell 1 _ rfl
  have y2 := i1.cell 2 _ rfl
  have y3 := i1.cell 3 _ rfl
  have w0 := i0.cell 0 _ rfl
  have z0 := i0.free 0 _ rfl
  have nz := i0.lt
  have heq : ∀ w', Sem.run Tryd.prog (Op.equalIn 10000 45 (.agg #[.int .u64 (word (x) 0), .int .u64 (word (x) 1), .int .u64 (word (x) 2), .int .u64 (word (x) 3)]) (.agg #[.int .u64 0, .int .u64 0, .int .u64 0, .int .u64 0])) w' = .ok (zeroW x) w' := fun w' => eq_words w' _ _ _ _ _ _ _ _
  have hsn := lastS_snoc pre x
  have HSN := Lib.hid hsn
  clear hsn
  generalize hzz : zeroW x = zz at *
  have HZZ := Lib.hid hzz
  clear hzz
  cases zz
  ·
   gi_wp2
   refine ⟨(KeepsOthers.refl _).from _, ⟨Nat.le_refl _, fun k c T fz _ h => h⟩, ?_⟩
   (try dsimp only)
   rw [HSN.out]; exact HI.out
  ·
   gi_wp2
   refine ⟨⟨by simp, fun k o hk h0 ho => (Below.heap_setCell _ _ _ _ (by dsimp only; omega)).trans h0⟩, rfl, ?_, ?_, by simp⟩
   ·
    rw [HSN.out]
    exact ⟨by simpa using isz, i0.set 0 _, i1.far (by omega) _, igr.setCell (Nat.le_refl _) _⟩
   ·
    rw [HSN.out]; exact HZZ.out
 case done =>
  rintro D ys V hD hys hI hK
  have hl2 : lastS ys = Rx.nowN n bg l := by rw [hys]; exact states_last n bg l
  rw [hl2] at hI
  have HI := Lib.hid hI
  have HK := Lib.hid hK
  clear hys hl2 hK
  generalize Rx.nowN n bg l = x at *
  obtain ⟨isz, i0, i1, igr⟩ := hI
  have y0 := i1.cell 0 _ rfl
  have y1 := i1.cell 1 _ rfl
  have y2 := i1.cell 2 _ rfl
  have y3 := i1.cell 3 _ rfl
  gi_wp2
  refine ⟨trivial, (callsIn_wide.2 (shas_w x 0 (by omega) _)).mono ?_⟩
  rintro e w1 ⟨rfl, hb⟩
  generalize x.testBit 0 = tb at *
  have i0 := HI.out.b0.below hb
  have w0 := i0.cell 0 _ rfl
  have z0 := i0.free 0 _ rfl
  have nz := i0.lt
  have hK2 := Lib.hid ((hb.block D (Array.getElem?_eq_some_iff.1 HK.out).1).trans HK.out)
  have hG := Lib.hid (HI.out.gr.trans (hb.mono (by omega)))
  clear HI HK hb
  gi_wp2
  have i2 := i0.set 0 (.bool tb)
  have hK3 := (Below.heap_setCell w1 ⟨w.heap.size, 0, none⟩ (.bool tb) D (by dsimp only; omega)).trans hK2.out
  have hG2 := hG.out.setCell (p := ⟨w.heap.size, 0, none⟩) (Nat.le_refl _) (.bool tb)
  generalize w1.setCell ⟨w.heap.size, 0, none⟩ (.bool tb) = X at *
  refine ⟨by simp, .inl ⟨_, _, rfl, run_takeDeferred hK3, ?_⟩⟩
  have hY := at_put i2 (show w.heap.size ≠ D by omega) (.deferred none)
  have q0 := hY.cell 0 _ rfl
  refine ⟨_, by simp [results, Tryd.results12, go_sem, q0]; try rfl, by rw [HRES.out], ?_⟩
  exact hG2.trans (belowK_b (w := w) (Nat.le_refl _) X D _ _ (by omega) hK3 rfl rfl)
 case stop =>
  rintro D c pre V hD hs ⟨rfl, hI, hzz, hne⟩ hK
  obtain ⟨k, hk, hk2⟩ := pre_last n bg l pre hs hne
  have hfin : Rx.matchN p l = false := by
   rw [HRES.out, now_split n bg l k, ← hk2]
   exact dead_end n _ hzz _
  have HF := Lib.hid hfin
  obtain ⟨isz, i0, i1, igr⟩ := hI
  clear hfin hk hk2 hzz hs
  gi_wp2
  refine ⟨by simp, .inl ⟨_, _, rfl, run_takeDeferred hK, ?_⟩⟩
  have hY := at_put i0 (show w.heap.size ≠ D by omega) (.deferred none)
  have q0 := hY.cell 0 _ rfl
  refine ⟨_, by simp [results, Tryd.results12, go_sem, q0]; try rfl, by rw [HF.out], ?_⟩
  exact igr.trans (belowK_b (w := w) (Nat.le_refl _) V D _ _ (by omega) hK rfl rfl)
end Go.Proofs.YtcfdpbbpdnpnnaaDoor
