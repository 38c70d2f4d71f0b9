/- regex: the walk's iterator. -/
import Derived.Test.YtcfdpbbpdnpnnaaDoorOps
import Derived.Test.YtcfdpbbpdnpnnaaDoorBehind
namespace Go.Proofs.YtcfdpbbpdnpnnaaDoor
open Go Go.Proofs Go.RowKit Go.Shelf
set_option maxRecDepth 100000
attribute [local go_sem] Oper.semAt_some
/-- all cells are kept but those of block q -/
structure KC (q : Nat) (W W' : World) : Prop where
 size : W.heap.size ≤ W'.heap.size
 same : ∀ (k : Nat) (c : Array Value) (T : TypeId) (fz : Nat × Nat), k ≠ q → W.heap[k]? = some (.cells c T fz) → W'.heap[k]? = some (.cells c T fz)
theorem KC.trans {q : Nat} {A B C : World} (h : KC q A B) (k : KC q B C) : KC q A C := ⟨Nat.le_trans h.size k.size, fun i c T fz hi h0 => k.same i c T fz hi (h.same i c T fz hi h0)⟩
theorem KC.block {q : Nat} {A B : World} (h : KC q A B) {b j : Nat} {v : Value} (hc : A.cell? ⟨b, j, none⟩ = some v) (hne : b ≠ q) : B.heap[b]? = A.heap[b]? := by
 unfold World.cell? at hc
 dsimp only at hc
 cases hb : A.heap[b]? with
 | none => rw [hb] at hc; simp at hc
 | some o =>
  rw [hb] at hc
  cases o with
  | cells c T fz => exact h.same b c T fz hne hb
  | _ => simp at hc
theorem At.kc {q b : Nat} {A B : World} {v : Value} {l : List Value} (h : At A b (v :: l)) (k : KC q A B) (hne : b ≠ q) : At B b (v :: l) := by
 have hb := k.block (h.cell 0 _ rfl) hne
 exact ⟨Nat.lt_of_lt_of_le h.lt k.size, fun j v hj => (World.cell?_of_block (a := ⟨b, j, none⟩) hb).trans (h.cell j v hj), fun j v hj => (World.frozen?_of_block (a := ⟨b, j, none⟩) hb).trans (h.free j v hj)⟩
theorem NetR.kc {q base g m cap : Nat} {A B : World} {n : Rx.Nt} (h : NetR base A (.slice (some ⟨g, 0, none⟩) m cap) n) (k : KC q A B) (hg : g ≠ q) (h1 : 1 ≠ q) : NetR base B (.slice (some ⟨g, 0, none⟩) m cap) n := by
 refine h.same k.size (fun x e => ?_) (k.block (h.tab.cell 0 (by decide)) h1)
 have e2 := Option.some.inj e
 dsimp only at e2
 subst e2
 rcases h.own.2 with ⟨h', _⟩ | ⟨g', cap', cur, h', _, hg', _⟩
 ·
  cases h'
 ·
  cases h'
  rw [hg']; exact k.same _ _ _ _ hg hg'
/-- where a pattern may stand behind each front of a text -/
def statesL (n : Rx.Nt) (bg : Nat) (l : List UInt8) : List Nat := (List.range (l.length + 1)).map (fun k => Rx.nowN n bg (l.take k))
theorem states_take (n : Rx.Nt) (bg : Nat) (l : List UInt8) (k : Nat) (hk : k ≤ l.length) : (statesL n bg l).take (k + 1) = (statesL n bg l).take k ++ [Rx.nowN n bg (l.take k)] := by
 have hg : (statesL n bg l)[k]? = some (Rx.nowN n bg (l.take k)) := by
  unfold statesL
  rw [List.getElem?_map, List.getElem?_range (by omega)]; rfl
 obtain ⟨h, e⟩ := List.getElem?_eq_some_iff.1 hg
 rw [List.take_succ_eq_append_getElem h, e]
theorem states_len (n : Rx.Nt) (bg : Nat) (l : List UInt8) : (statesL n bg l).length = l.length + 1 := by unfold statesL; simp
theorem now_succ (n : Rx.Nt) (bg : Nat) (l : List UInt8) (k : Nat) (c : UInt8) (hc : l[k]? = some c) : Rx.nowN n bg (l.take (k + 1)) = Rx.behindN n (Rx.nowN n bg (l.take k)) c := by
 obtain ⟨hk, he⟩ := List.getElem?_eq_some_iff.1 hc
 unfold Rx.nowN
 rw [List.take_succ_eq_append_getElem hk, List.foldl_append, he]; rfl
theorem now_lt {n : Rx.Nt} (hn : n.length ≤ 256) (he : ∀ i j, Rx.edge n i j → j < n.length) : ∀ (u : List UInt8) (bg : Nat), (∀ i, i < 256 → bg.testBit i = true → i < n.length) → ∀ i, i < 256 → (Rx.nowN n bg u).testBit i = true → i < n.length := by
 intro u
 induction u with
 | nil => intro bg hb i h1 h2; exact hb i h1 h2
 | cons c u ih =>
  intro bg hb i h1 h2
  refine ih (Rx.behindN n bg c) (fun j _ hj => ?_) i h1 h2
  obtain ⟨q, _, _, h4⟩ := (Rx.behind_bit hn).1 hj
  exact he _ _ h4
set_option maxHeartbeats 4000000 in
theorem walk1_in (base rb Br Bs q g cap : Nat) (s sp : ByteArray) (l : List UInt8) (hud : s.data.toList = l) (hl : l.length ≤ 1000) (n : Rx.Nt) (bg : Nat) (hb : ∀ i, i < 256 → bg.testBit i = true → i < n.length) (he : ∀ i j, Rx.edge n i j → j < n.length)
  (hn1 : Br ≠ q) (hn2 : Bs ≠ q) (hn3 : rb ≠ q) (hn4 : g ≠ q) (hn5 : 1 ≠ q) (l' : Nat) (J Jx : List Nat → World → Prop) (W : World) (hJ : ∀ s A B, J s A → Below W.heap.size A B → J s B)
  (hY : ∀ pre x W1, J pre W1 → pre.length < l.length + 1 → YieldAt Fence.wide 7 Tryd.prog l' #[.agg #[.int .u64 (word (x) 0), .int .u64 (word (x) 1), .int .u64 (word (x) 2), .int .u64 (word (x) 3)]] W1 fun e W' =>
   (e = .returned (.bool true) ∧ J (pre ++ [x]) W' ∧ KC q W1 W') ∨ (e = .returned (.bool false) ∧ Jx (pre ++ [x]) W'))
  (aR : At W Br [.pointer (some ⟨rb, 0, none⟩)]) (aS : At W Bs [.string s]) (aX : At W rb [.string sp, .int .u64 (word (bg) 0), .int .u64 (word (bg) 1), .int .u64 (word (bg) 2), .int .u64 (word (bg) 3), .slice (some ⟨g, 0, none⟩) n.length cap]) (N : NetR base W (.slice (some ⟨g, 0, none⟩) n.length cap) n) (hq : q < W.heap.size) (h0 : J [] W) :
  CallsIn Fence.wide 8 Tryd.prog 33 #[.func (.yield l') #[] #[], .pointer (some ⟨Br, 0, none⟩), .pointer (some ⟨Bs, 0, none⟩)] W fun e W' => (∃ v, e = .returned v) ∧
   ((∃ ys, ys = statesL n bg l ∧ J ys W') ∨ (∃ pre, pre <+: statesL n bg l ∧ Jx pre W')) := by
 have hnl := N.len
 have hgs := (N.lt g rfl).2
 have hts := N.tab.lt
 have hrs := aX.lt
 have hBr := aR.lt
 have hBs := aS.lt
 have HNL := Lib.hid (now_lt (n := n) (by omega) he)
 have HB := Lib.hid hb
 have hsz : s.size = l.length := by rw [Lib.size_eq, hud]
 have HSZ := Lib.hid hsz
 have HUD := Lib.hid hud
 have HH := Lib.hid hY
 have HJ := Lib.hid hJ
 have H0 := Lib.hid h0
 clear he hb hsz hud hY hJ h0
 have b0 := aR.cell 0 _ rfl
 have b1 := aX.cell 1 _ rfl
 have b2 := aX.cell 2 _ rfl
 have b3 := aX.cell 3 _ rfl
 have b4 := aX.cell 4 _ rfl
 refine callsIn_of_wp Tryd.func33 rfl trivial ?_ rfl
 simp only [Tryd.ntmps33, List.size_toArray, List.length_cons, List.length_nil, Nat.reduceAdd, Nat.reduceSub, Array.replicate_succ, Array.replicate_zero, List.push_toArray, List.append_toArray, List.nil_append, List.cons_append]
 gi_wp2
 gi_loopw [5] (fun i wr => ∃ k : Nat, k ≤ l.length ∧ i = .int .i64 (k : Int) ∧ J ((statesL n bg l).take k) wr ∧ At wr W.heap.size [.int .u64 (word (Rx.nowN n bg (l.take k)) 0), .int .u64 (word (Rx.nowN n bg (l.take k)) 1), .int .u64 (word (Rx.nowN n bg (l.take k)) 2), .int .u64 (word (Rx.nowN n bg (l.take k)) 3)] ∧ At wr Br [.pointer (some ⟨rb, 0, none⟩)] ∧ At wr Bs [.string s] ∧ At wr rb [.string sp, .int .u64 (word (bg) 0), .int .u64 (word (bg) 1), .int .u64 (word (bg) 2), .int .u64 (word (bg) 3), .slice (some ⟨g, 0, none⟩) n.length cap] ∧ NetR base wr (.slice (some ⟨g, 0, none⟩) n.length cap) n) (fun i _ => l.length - (intOf i).toNat)
 case atStart =>
  have hA : Below W.heap.size W (W.alloc (.cells #[.int .u64 (word (bg) 0), .int .u64 (word (bg) 1), .int .u64 (word (bg) 2), .int .u64 (word (bg) 3)] 45)) := (Below.refl _ _).alloc (Nat.le_refl _) _
  exact ⟨0, Nat.zero_le _, rfl, HJ.out _ _ _ H0.out hA, by exact At.new _ _ _, aR.alloc _, aS.alloc _, aX.alloc _, N.alloc _⟩
 case round =>
  clear b0 b1 b2 b3 b4 aR aS aX N H0
  obtain ⟨k, hk, rfl, hj, aN, aR, aS, aX, N⟩ := hrel
  have a0 := aN.cell 0 _ rfl
  have a1 := aN.cell 1 _ rfl
  have a2 := aN.cell 2 _ rfl
  have a3 := aN.cell 3 _ rfl
  have hst := states_take n bg l k hk
  obtain ⟨fn, tmps, assign, body, hy, hR⟩ := HH.out _ (Rx.nowN n bg (l.take k)) _ hj (by rw [List.length_take, states_len]; omega)
  rw [← hst] at hR
  have hnlt := HNL.out (l.take k) bg HB.out
  have HNK := Lib.hid hnlt
  have hpfx : (statesL n bg l).take (k + 1) <+: statesL n bg l := List.take_prefix _ _
  have HP := Lib.hid hpfx
  have hsz := HSZ.out
  clear hst hnlt hpfx hj
  by_cases hlt : k < l.length
  ·
   have hi : k < s.size := by omega
   obtain ⟨c, hc⟩ : ∃ c : UInt8, s[k]'hi = c := ⟨_, rfl⟩
   have hcl : l[k]? = some c := by rw [← HUD.out, ← hc]; exact Lib.data_getElem? s k hi
   have hns := now_succ n bg l k c hcl
   have HNS := Lib.hid hns
   clear hns hcl
   generalize Rx.nowN n bg (l.take k) = now at *
   have h0 : (0 : Int) ≤ (k : Int) := by omega
   have h1 : (k : Int) < (s.size : Int) := by omega
   have d1 : decide ((k : Int) < (s.size : Int)) = true := decide_eq_true (by omega)
   have d2 : decide (k < s.size) = true := decide_eq_true hi
   clear hsz
   gi_wp2
   refine hR.mono ?_
   rintro e W3 (⟨rfl, hJ3, hk3⟩ | ⟨rfl, hJx3⟩)
   ·
    have aN := aN.kc hk3 (by omega)
    have aR := aR.kc hk3 hn1
    have aS := aS.kc hk3 hn2
    have aX := aX.kc hk3 hn3
    have N := N.kc hk3 hn4 hn5
    have HJ3 := Lib.hid hJ3
    have a0 := aN.cell 0 _ rfl
    have a1 := aN.cell 1 _ rfl
    have a2 := aN.cell 2 _ rfl
    have a3 := aN.cell 3 _ rfl
    have b0 := aR.cell 0 _ rfl
    have b1 := aX.cell 5 _ rfl
    have c0 := aS.cell 0 _ rfl
    clear hR hJ3 hy hk3
    gi_wp2
    have hz3 := aN.lt
    refine region_anyM (S := fun u => Below W3.heap.size W3 u) 9 (by kernel_rfl) (fun hS => ?_) ((Below.refl _ _).drew)
    refine' anyM_take (i := 0) (oi := ?oi0w) (v := ?v0w) [0, 1, 2, 3, 8, 9] (by kernel_rfl) ?hi0w (by kernel_rfl) (by kernel_rfl) (by kernel_rfl) (by kernel_rfl) ?hQ0w ?hy0w ?hab0w hS ?rest0w
    case hi0w =>
     simp only [qa, qb, qc]
     exact rfl
    case hQ0w => exact fun _ _ _ h => h
    case hy0w =>
     refine Or.inl ⟨by rfl, ?_⟩
     intro u hSw
     have k0 := below_cell b0 hSw rfl
     clear hSw
     go_simp
     (try with_reducible rfl)
    case hab0w => exact fun _ => rfl
    (try simp only [Act.put, qd, qe, qf])
    refine' anyM_take (i := 1) (oi := ?oi1w) (v := ?v1w) [1, 2, 3, 8, 9] (by kernel_rfl) ?hi1w (by kernel_rfl) (by kernel_rfl) (by kernel_rfl) (by kernel_rfl) ?hQ1w ?hy1w ?hab1w hS ?rest1w
    case hi1w =>
     simp only [qa, qb, qc]
     exact rfl
    case hQ1w => exact fun _ _ _ h => h
    case hy1w =>
     refine Or.inl ⟨by rfl, ?_⟩
     intro u hSw
     clear hSw
     go_simp
     (try with_reducible rfl)
    case hab1w => exact fun _ => rfl
    (try simp only [Act.put, qd, qe, qf])
    refine' anyM_take (i := 2) (oi := ?oi2w) (v := ?v2w) [2, 3, 8, 9] (by kernel_rfl) ?hi2w (by kernel_rfl) (by kernel_rfl) (by kernel_rfl) (by kernel_rfl) ?hQ2w ?hy2w ?hab2w hS ?rest2w
    case hi2w =>
     simp only [qa, qb, qc]
     exact rfl
    case hQ2w => exact fun _ _ _ h => h
    case hy2w =>
     refine Or.inl ⟨by rfl, ?_⟩
     intro u hSw
     clear hSw
     go_simp
     (try with_reducible rfl)
    case hab2w => exact fun _ => rfl
    (try simp only [Act.put, qd, qe, qf])
    refine' anyM_take (i := 3) (oi := ?oi3w) (v := ?v3w) [3, 8, 9] (by kernel_rfl) ?hi3w (by kernel_rfl) (by kernel_rfl) (by kernel_rfl) (by kernel_rfl) ?hQ3w ?hy3w ?hab3w hS ?rest3w
    case hi3w =>
     simp only [qa, qb, qc]
     exact rfl
    case hQ3w => exact fun _ _ _ h => h
    case hy3w =>
     refine Or.inl ⟨by rfl, ?_⟩
     intro u hSw
     have k0 := below_cell b1 hSw rfl
     clear hSw
     go_simp
     (try with_reducible rfl)
    case hab3w => exact fun _ => rfl
    (try simp only [Act.put, qd, qe, qf])
    refine' anyM_take (i := 4) (oi := ?oi4w) (v := ?v4w) [4, 8, 9] (by kernel_rfl) ?hi4w (by kernel_rfl) (by kernel_rfl) (by kernel_rfl) (by kernel_rfl) ?hQ4w ?hy4w ?hab4w hS ?rest4w
    case hi4w =>
     simp only [qa, qb, qc]
     exact rfl
    case hQ4w => exact fun _ _ _ h => h
    case hy4w =>
     refine Or.inl ⟨by rfl, ?_⟩
     intro u hSw
     have k0 := below_cell a0 hSw rfl; have k1 := below_cell a1 hSw rfl; have k2 := below_cell a2 hSw rfl; have k3 := below_cell a3 hSw rfl
     clear hSw
     go_simp
     (try with_reducible rfl)
    case hab4w => exact fun _ => rfl
    (try simp only [Act.put, qd, qe, qf])
    refine' anyM_take (i := 5) (oi := ?oi5w) (v := ?v5w) [5, 7, 8, 9] (by kernel_rfl) ?hi5w (by kernel_rfl) (by kernel_rfl) (by kernel_rfl) (by kernel_rfl) ?hQ5w ?hy5w ?hab5w hS ?rest5w
    case hi5w =>
     simp only [qa, qb, qc]
     exact rfl
    case hQ5w => exact fun _ _ _ h => h
    case hy5w =>
     refine Or.inl ⟨by rfl, ?_⟩
     intro u hSw
     have k0 := below_cell c0 hSw rfl
     clear hSw
     go_simp
     (try with_reducible rfl)
    case hab5w => exact fun _ => rfl
    (try simp only [Act.put, qd, qe, qf])
    refine' anyM_take (i := 6) (oi := ?oi6w) (v := ?v6w) [6, 7, 8, 9] (by kernel_rfl) ?hi6w (by kernel_rfl) (by kernel_rfl) (by kernel_rfl) (by kernel_rfl) ?hQ6w ?hy6w ?hab6w hS ?rest6w
    case hi6w =>
     simp only [qa, qb, qc]
     exact rfl
    case hQ6w => exact fun _ _ _ h => h
    case hy6w =>
     refine Or.inl ⟨by rfl, ?_⟩
     intro u hSw
     clear hSw
     go_simp
     (try with_reducible rfl)
    case hab6w => exact fun _ => rfl
    (try simp only [Act.put, qd, qe, qf])
    refine' anyM_take (i := 7) (oi := ?oi7w) (v := ?v7w) [7, 8, 9] (by kernel_rfl) ?hi7w (by kernel_rfl) (by kernel_rfl) (by kernel_rfl) (by kernel_rfl) ?hQ7w ?hy7w ?hab7w hS ?rest7w
    case hi7w =>
     simp only [qa, qb, qc]
     exact rfl
    case hQ7w => exact fun _ _ _ h => h
    case hy7w =>
     refine Or.inl ⟨by rfl, ?_⟩
     intro u hSw
     clear hSw
     go_simp
     (try with_reducible rfl)
    case hab7w => exact fun _ => rfl
    (try simp only [Act.put, qd, qe, qf])
    refine' anyM_only (i := 8) (o := ?oo8w) (by kernel_rfl) (by decide) ?ho8w ?hw8w (fun K hK => ?st8w)
    case ho8w =>
     simp only [qa, qb, qc]
     exact rfl
    case hw8w => rfl
    go_simp
    refine ⟨trivial, ?_⟩
    gi_at_call 34
    refine (callsIn_wide.2 (behind_any base g cap n now c HNK.out _ (N.below hS))).mono ?_
    rintro e1 w1 ⟨rfl, hb1⟩
    have hS := below_then hS hb1
    clear hb1
    go_simp
    refine hK _ _ hS ?_
    clear hK K
    (try simp only [Act.put, qd, qe, qf])
    generalize Rx.behindN n now c = nx at *
    have aN := aN.below hS
    have a0 := aN.cell 0 _ rfl
    have a1 := aN.cell 1 _ rfl
    have a2 := aN.cell 2 _ rfl
    have a3 := aN.cell 3 _ rfl
    have z0 := aN.free 0 _ rfl
    have z1 := aN.free 1 _ rfl
    have z2 := aN.free 2 _ rfl
    have z3 := aN.free 3 _ rfl
    have nx0 := aN.lt
    refine' anyM_last (o := ?oo9w) (by kernel_rfl) ?ho9w ?hw9w (fun K hK => ?st9w)
    case ho9w =>
     simp only [qa, qb, qc]
     exact rfl
    case hw9w => rfl
    go_simp
    refine hK _ _ ?_
    clear hK K
    refine anyIn_done (by kernel_rfl) ?_ _
    have aR := aR.below hS
    have aS := aS.below hS
    have aX := aX.below hS
    have N := N.below hS
    have hbA : Below W.heap.size W3 w1 := hS.mono (by omega)
    have hbX : Below W.heap.size W3 ((((w1.setCell ⟨W.heap.size, 0, none⟩ (.int .u64 (word nx 0))).setCell ⟨W.heap.size, 1, none⟩ (.int .u64 (word nx 1))).setCell ⟨W.heap.size, 2, none⟩ (.int .u64 (word nx 2))).setCell ⟨W.heap.size, 3, none⟩ (.int .u64 (word nx 3))) :=
     (((hbA.setCell (p := ⟨W.heap.size, 0, none⟩) (Nat.le_refl _) _).setCell (p := ⟨W.heap.size, 1, none⟩) (Nat.le_refl _) _).setCell (p := ⟨W.heap.size, 2, none⟩) (Nat.le_refl _) _).setCell (p := ⟨W.heap.size, 3, none⟩) (Nat.le_refl _) _
    have jX := Lib.hid (HJ.out _ _ _ HJ3.out hbX)
    have xN := Lib.hid ((((aN.set 0 (.int .u64 (word nx 0))).set 1 (.int .u64 (word nx 1))).set 2 (.int .u64 (word nx 2))).set 3 (.int .u64 (word nx 3)))
    have xR := Lib.hid ((((aR.far (b' := W.heap.size) (j := 0) (by omega) (.int .u64 (word nx 0))).far (b' := W.heap.size) (j := 1) (by omega) (.int .u64 (word nx 1))).far (b' := W.heap.size) (j := 2) (by omega) (.int .u64 (word nx 2))).far (b' := W.heap.size) (j := 3) (by omega) (.int .u64 (word nx 3)))
    have xS := Lib.hid ((((aS.far (b' := W.heap.size) (j := 0) (by omega) (.int .u64 (word nx 0))).far (b' := W.heap.size) (j := 1) (by omega) (.int .u64 (word nx 1))).far (b' := W.heap.size) (j := 2) (by omega) (.int .u64 (word nx 2))).far (b' := W.heap.size) (j := 3) (by omega) (.int .u64 (word nx 3)))
    have xX := Lib.hid ((((aX.far (b' := W.heap.size) (j := 0) (by omega) (.int .u64 (word nx 0))).far (b' := W.heap.size) (j := 1) (by omega) (.int .u64 (word nx 1))).far (b' := W.heap.size) (j := 2) (by omega) (.int .u64 (word nx 2))).far (b' := W.heap.size) (j := 3) (by omega) (.int .u64 (word nx 3)))
    have xM := Lib.hid (N.same (w' := ((((w1.setCell ⟨W.heap.size, 0, none⟩ (.int .u64 (word nx 0))).setCell ⟨W.heap.size, 1, none⟩ (.int .u64 (word nx 1))).setCell ⟨W.heap.size, 2, none⟩ (.int .u64 (word nx 2))).setCell ⟨W.heap.size, 3, none⟩ (.int .u64 (word nx 3)))) (by simp) (fun y e => by have e2 := Option.some.inj e; dsimp only at e2; subst e2; exact set4_block (by omega)) (set4_block (by omega)))
    clear hbX hbA aN aR aS aX N hS a0 a1 a2 a3 z0 z1 z2 z3
    gi_wp2
    go_roundw
    case rel => exact ⟨k + 1, by omega, by go_num, jX.out, by rw [HNS.out]; exact xN.out, xR.out, xS.out, xX.out, xM.out⟩
    case measure => simp [intOf]; omega
   ·
    have HJ3 := Lib.hid hJx3
    clear hR hJx3 hy
    gi_wp2
    go_end0
    exact ⟨⟨_, rfl⟩, .inr ⟨_, HP.out, HJ3.out⟩⟩
  ·
   obtain rfl : k = l.length := by omega
   have d1 : decide ((l.length : Int) < (s.size : Int)) = false := decide_eq_false (by omega)
   have d2 : decide (l.length < s.size) = false := decide_eq_false (by omega)
   generalize Rx.nowN n bg (l.take l.length) = now at *
   have hall : (statesL n bg l).take (l.length + 1) = statesL n bg l := by rw [← states_len n bg l, List.take_length]
   rw [hall] at hR
   clear hsz hall
   gi_wp2
   refine hR.mono ?_
   rintro e W3 (⟨rfl, hJ3, hk3⟩ | ⟨rfl, hJx3⟩)
   ·
    have aS := aS.kc hk3 hn2
    have c0 := aS.cell 0 _ rfl
    have HJ3 := Lib.hid hJ3
    clear hR hJ3 hy hk3
    gi_wp2
    go_end0
    exact ⟨⟨_, rfl⟩, .inl ⟨_, rfl, HJ3.out⟩⟩
   ·
    have HJ3 := Lib.hid hJx3
    clear hR hJx3 hy
    gi_wp2
    go_end0
    exact ⟨⟨_, rfl⟩, .inr ⟨_, List.prefix_refl _, HJ3.out⟩⟩
end Go.Proofs.YtcfdpbbpdnpnnaaDoor
