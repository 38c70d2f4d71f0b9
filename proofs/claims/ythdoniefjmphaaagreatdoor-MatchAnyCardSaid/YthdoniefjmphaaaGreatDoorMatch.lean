/- regex: the walk's iterator. -/
import Derived.Test.YthdoniefjmphaaaGreatDoorOps
import Derived.Test.YthdoniefjmphaaaGreatDoorBehind
import Derived.Test.YthdoniefjmphaaaGreatDoorComp
namespace Go.Proofs.YthdoniefjmphaaaGreatDoor
open Go Go.Proofs Go.RowKit Go.Shelf
set_option maxRecDepth 100000
attribute [local go_sem] Oper.semAt_some
structure KC (q : Nat) (W W' : World) : Prop where
 size : W.heap.size ≤ W'.heap.size
 same : ∀ (k : Nat) (c : Array Value) (T : TypeId) (fz : Nat × Nat), k ≠ q → W.heap[k]? = some (.cells c T fz) → W'.heap[k]? = some (.cells c T fz)
theorem KC.trans {q : Nat} {A B C : World} (h : KC q A B) (k : KC q B C) : KC q A C := ⟨Nat.le_trans h.size k.size, fun i c T fz hi h0 => k.same i c T fz hi (h.same i c T fz hi h0)⟩
theorem KC.block {q : Nat} {A B : World} (h : KC q A B) {b j : Nat} {v : Value} (hc : A.cell? ⟨b, j, none⟩ = some v) (hne : b ≠ q) : B.heap[b]? = A.heap[b]? := by
 unfold World.cell? at hc;dsimp only at hc;cases hb : A.heap[b]? with
 | none => rw [hb] at hc; simp at hc
 | some o =>
  rw [hb] at hc;cases o with
  | cells c T fz => exact h.same b c T fz hne hb
  | _ => simp at hc
theorem At.kc {q b : Nat} {A B : World} {v : Value} {l : List Value} (h : At A b (v :: l)) (k : KC q A B) (hne : b ≠ q) : At B b (v :: l) := by
 have hb := k.block (h.cell 0 _ rfl) hne;exact ⟨Nat.lt_of_lt_of_le h.lt k.size, fun j v hj => (World.cell?_of_block (a := ⟨b, j, none⟩) hb).trans (h.cell j v hj), fun j v hj => (World.frozen?_of_block (a := ⟨b, j, none⟩) hb).trans (h.free j v hj)⟩
theorem NetR.kc {q base g m cap : Nat} {A B : World} {n : Rx.Nt} (h : NetR base A (.slice (some ⟨g, 0, none⟩) m cap) n) (k : KC q A B) (hg : g ≠ q) (h1 : 3 ≠ q) : NetR base B (.slice (some ⟨g, 0, none⟩) m cap) n := by
 refine h.same k.size (fun x e => ?_) (k.block (h.tab.cell 0 (by decide)) h1);have e2 := Option.some.inj e;dsimp only at e2;subst e2;rcases h.own.2 with ⟨h', _⟩ | ⟨g', cap', cur, h', _, hg', _⟩
 ·
  cases h'
 ·
  cases h'
  rw [hg']; exact k.same _ _ _ _ hg hg'
def statesL (n : Rx.Nt) (bg : Nat) (l : List UInt8) : List Nat := (List.range (l.length + 1)).map (fun k => Rx.nowN n bg (l.take k))
theorem states_take (n : Rx.Nt) (bg : Nat) (l : List UInt8) (k : Nat) (hk : k ≤ l.length) : (statesL n bg l).take (k + 1) = (statesL n bg l).take k ++ [Rx.nowN n bg (l.take k)] := by
 have hg : (statesL n bg l)[k]? = some (Rx.nowN n bg (l.take k)) := by
  unfold statesL;rw [List.getElem?_map, List.getElem?_range (by omega)]; rfl
 obtain ⟨h, e⟩ := List.getElem?_eq_some_iff.1 hg;rw [List.take_succ_eq_append_getElem h, e]
theorem states_len (n : Rx.Nt) (bg : Nat) (l : List UInt8) : (statesL n bg l).length = l.length + 1 := by unfold statesL; simp
theorem now_succ (n : Rx.Nt) (bg : Nat) (l : List UInt8) (k : Nat) (c : UInt8) (hc : l[k]? = some c) : Rx.nowN n bg (l.take (k + 1)) = Rx.behindN n (Rx.nowN n bg (l.take k)) c := by
 obtain ⟨hk, he⟩ := List.getElem?_eq_some_iff.1 hc;unfold Rx.nowN;rw [List.take_succ_eq_append_getElem hk, List.foldl_append, he]; rfl
theorem now_lt {n : Rx.Nt} (hn : n.length ≤ 256) (he : ∀ i j, Rx.edge n i j → j < n.length) : ∀ (u : List UInt8) (bg : Nat), (∀ i, i < 256 → bg.testBit i = true → i < n.length) → ∀ i, i < 256 → (Rx.nowN n bg u).testBit i = true → i < n.length := by
 intro u;induction u with
 | nil => intro bg hb i h1 h2; exact hb i h1 h2
 | cons c u ih =>
  intro bg hb i h1 h2;refine ih (Rx.behindN n bg c) (fun j _ hj => ?_) i h1 h2;obtain ⟨q, _, _, h4⟩ := (Rx.behind_bit hn).1 hj;exact he _ _ h4
set_option maxHeartbeats 4000000 in
theorem walk1_in (base rb Br Bs q g cap : Nat) (s sp : ByteArray) (l : List UInt8) (hud : s.data.toList = l) (hl : l.length ≤ 1000) (n : Rx.Nt) (bg : Nat) (hb : ∀ i, i < 256 → bg.testBit i = true → i < n.length) (he : ∀ i j, Rx.edge n i j → j < n.length)
  (hn1 : Br ≠ q) (hn2 : Bs ≠ q) (hn3 : rb ≠ q) (hn4 : g ≠ q) (hn5 : 3 ≠ q) (l' : Nat) (J Jx : List Nat → World → Prop) (W : World) (hJ : ∀ s A B, J s A → Below W.heap.size A B → J s B)
  (hY : ∀ pre x W1, J pre W1 → pre.length < l.length + 1 → YieldAt Fence.wide 7 Tryz.prog l' #[.agg #[.int .u64 (word (x) 0), .int .u64 (word (x) 1), .int .u64 (word (x) 2), .int .u64 (word (x) 3)]] W1 fun e W' =>
   (e = .returned (.bool true) ∧ J (pre ++ [x]) W' ∧ KC q W1 W') ∨ (e = .returned (.bool false) ∧ Jx (pre ++ [x]) W'))
  (aR : At W Br [.pointer (some ⟨rb, 0, none⟩)]) (aS : At W Bs [.string s]) (aX : At W rb [.string sp, .int .u64 (word (bg) 0), .int .u64 (word (bg) 1), .int .u64 (word (bg) 2), .int .u64 (word (bg) 3), .slice (some ⟨g, 0, none⟩) n.length cap]) (N : NetR base W (.slice (some ⟨g, 0, none⟩) n.length cap) n) (hq : q < W.heap.size) (h0 : J [] W) :
  CallsIn Fence.wide 8 Tryz.prog 102 #[.func (.yield l') #[] #[], .pointer (some ⟨Br, 0, none⟩), .pointer (some ⟨Bs, 0, none⟩)] W fun e W' => (∃ v, e = .returned v) ∧
   ((∃ ys, ys = statesL n bg l ∧ J ys W') ∨ (∃ pre, pre <+: statesL n bg l ∧ Jx pre W')) := by
 have hnl := N.len;have hgs := (N.lt g rfl).2;have hts := N.tab.lt;have hrs := aX.lt;have hBr := aR.lt;have hBs := aS.lt;have HNL := Lib.hid (now_lt (n := n) (by omega) he);have HB := Lib.hid hb;have hsz : s.size = l.length := by rw [Lib.size_eq, hud]
 have HSZ := Lib.hid hsz;have HUD := Lib.hid hud;have HH := Lib.hid hY;have HJ := Lib.hid hJ;have H0 := Lib.hid h0;clear he hb hsz hud hY hJ h0;have b0 := aR.cell 0 _ rfl;have b1 := aX.cell 1 _ rfl;have b2 := aX.cell 2 _ rfl;have b3 := aX.cell 3 _ rfl;have b4 := aX.cell 4 _ rfl;refine callsIn_of_wp Tryz.func102 rfl trivial ?_ rfl;simp only [Tryz.ntmps102, List.size_toArray, List.length_cons, List.length_nil, Nat.reduceAdd, Nat.reduceSub, Array.replicate_succ, Array.replicate_zero, List.push_toArray, List.append_toArray, List.nil_append, List.cons_append]
 gi_wp2
 gi_loopw [5] (fun i wr => ∃ k : Nat, k ≤ l.length ∧ i = .int .i64 (k : Int) ∧ J ((statesL n bg l).take k) wr ∧ At wr W.heap.size [.int .u64 (word (Rx.nowN n bg (l.take k)) 0), .int .u64 (word (Rx.nowN n bg (l.take k)) 1), .int .u64 (word (Rx.nowN n bg (l.take k)) 2), .int .u64 (word (Rx.nowN n bg (l.take k)) 3)] ∧ At wr Br [.pointer (some ⟨rb, 0, none⟩)] ∧ At wr Bs [.string s] ∧ At wr rb [.string sp, .int .u64 (word (bg) 0), .int .u64 (word (bg) 1), .int .u64 (word (bg) 2), .int .u64 (word (bg) 3), .slice (some ⟨g, 0, none⟩) n.length cap] ∧ NetR base wr (.slice (some ⟨g, 0, none⟩) n.length cap) n) (fun i _ => l.length - (intOf i).toNat)
 case atStart =>
  have hA : Below W.heap.size W (W.alloc (.cells #[.int .u64 (word (bg) 0), .int .u64 (word (bg) 1), .int .u64 (word (bg) 2), .int .u64 (word (bg) 3)] 104)) := (Below.refl _ _).alloc (Nat.le_refl _) _;exact ⟨0, Nat.zero_le _, rfl, HJ.out _ _ _ H0.out hA, by exact At.new _ _ _, aR.alloc _, aS.alloc _, aX.alloc _, N.alloc _⟩
 case round =>
  clear b0 b1 b2 b3 b4 aR aS aX N H0;obtain ⟨k, hk, rfl, hj, aN, aR, aS, aX, N⟩ := hrel;have a0 := aN.cell 0 _ rfl;have a1 := aN.cell 1 _ rfl;have a2 := aN.cell 2 _ rfl;have a3 := aN.cell 3 _ rfl;have hst := states_take n bg l k hk;obtain ⟨fn, tmps, assign, body, hy, hR⟩ := HH.out _ (Rx.nowN n bg (l.take k)) _ hj (by rw [List.length_take, states_len]; omega);rw [← hst] at hR;have hnlt := HNL.out (l.take k) bg HB.out;have HNK := Lib.hid hnlt;have hpfx : (statesL n bg l).take (k + 1) <+: statesL n bg l := List.take_prefix _ _;have HP := Lib.hid hpfx;have hsz := HSZ.out;clear hst hnlt hpfx hj;by_cases hlt : k < l.length
  ·
   have hi : k < s.size := by omega
   obtain ⟨c, hc⟩ : ∃ c : UInt8, s[k]'hi = c := ⟨_, rfl⟩;have hcl : l[k]? = some c := by rw [← HUD.out, ← hc]; exact Lib.data_getElem? s k hi
   have hns := now_succ n bg l k c hcl;have HNS := Lib.hid hns;clear hns hcl;generalize Rx.nowN n bg (l.take k) = now at *;have h0 : (0 : Int) ≤ (k : Int) := by omega
   have h1 : (k : Int) < (s.size : Int) := by omega
   have d1 : decide ((k : Int) < (s.size : Int)) = true := decide_eq_true (by omega);have d2 : decide (k < s.size) = true := decide_eq_true hi;clear hsz
   gi_wp2
   refine hR.mono ?_;rintro e W3 (⟨rfl, hJ3, hk3⟩ | ⟨rfl, hJx3⟩)
   ·
    have aN := aN.kc hk3 (by omega);have aR := aR.kc hk3 hn1;have aS := aS.kc hk3 hn2;have aX := aX.kc hk3 hn3;have N := N.kc hk3 hn4 hn5;have HJ3 := Lib.hid hJ3;have a0 := aN.cell 0 _ rfl;have a1 := aN.cell 1 _ rfl;have a2 := aN.cell 2 _ rfl;have a3 := aN.cell 3 _ rfl;have b0 := aR.cell 0 _ rfl;have b1 := aX.cell 5 _ rfl;have c0 := aS.cell 0 _ rfl;clear hR hJ3 hy hk3
    gi_wp2
    have hz3 := aN.lt;refine region_anyM (S := fun u => Below W3.heap.size W3 u) 9 (by kernel_rfl) (fun hS => ?_) ((Below.refl _ _).drew);refine' anyM_take (i := 0) (oi := ?oi0w) (v := ?v0w) [0, 1, 2, 3, 8, 9] (by kernel_rfl) ?hi0w (by kernel_rfl) (by kernel_rfl) (by kernel_rfl) (by kernel_rfl) ?hQ0w ?hy0w ?hab0w hS ?rest0w
    case hi0w =>
     simp only [qa, qb, qc];exact rfl
    case hQ0w => exact fun _ _ _ h => h
    case hy0w =>
     refine Or.inl ⟨by rfl, ?_⟩;intro u hSw;have k0 := below_cell b0 hSw rfl;clear hSw;go_simp
     (try with_reducible rfl)
    case hab0w => exact fun _ => rfl
    (try simp only [Act.put, qd, qe, qf])
    refine' anyM_take (i := 1) (oi := ?oi1w) (v := ?v1w) [1, 2, 3, 8, 9] (by kernel_rfl) ?hi1w (by kernel_rfl) (by kernel_rfl) (by kernel_rfl) (by kernel_rfl) ?hQ1w ?hy1w ?hab1w hS ?rest1w
    case hi1w =>
     simp only [qa, qb, qc];exact rfl
    case hQ1w => exact fun _ _ _ h => h
    case hy1w =>
     refine Or.inl ⟨by rfl, ?_⟩;intro u hSw;clear hSw;go_simp
     (try with_reducible rfl)
    case hab1w => exact fun _ => rfl
    (try simp only [Act.put, qd, qe, qf])
    refine' anyM_take (i := 2) (oi := ?oi2w) (v := ?v2w) [2, 3, 8, 9] (by kernel_rfl) ?hi2w (by kernel_rfl) (by kernel_rfl) (by kernel_rfl) (by kernel_rfl) ?hQ2w ?hy2w ?hab2w hS ?rest2w
    case hi2w =>
     simp only [qa, qb, qc];exact rfl
    case hQ2w => exact fun _ _ _ h => h
    case hy2w =>
     refine Or.inl ⟨by rfl, ?_⟩;intro u hSw;clear hSw;go_simp
     (try with_reducible rfl)
    case hab2w => exact fun _ => rfl
    (try simp only [Act.put, qd, qe, qf])
    refine' anyM_take (i := 3) (oi := ?oi3w) (v := ?v3w) [3, 8, 9] (by kernel_rfl) ?hi3w (by kernel_rfl) (by kernel_rfl) (by kernel_rfl) (by kernel_rfl) ?hQ3w ?hy3w ?hab3w hS ?rest3w
    case hi3w =>
     simp only [qa, qb, qc];exact rfl
    case hQ3w => exact fun _ _ _ h => h
    case hy3w =>
     refine Or.inl ⟨by rfl, ?_⟩;intro u hSw;have k0 := below_cell b1 hSw rfl;clear hSw;go_simp
     (try with_reducible rfl)
    case hab3w => exact fun _ => rfl
    (try simp only [Act.put, qd, qe, qf])
    refine' anyM_take (i := 4) (oi := ?oi4w) (v := ?v4w) [4, 8, 9] (by kernel_rfl) ?hi4w (by kernel_rfl) (by kernel_rfl) (by kernel_rfl) (by kernel_rfl) ?hQ4w ?hy4w ?hab4w hS ?rest4w
    case hi4w =>
     simp only [qa, qb, qc];exact rfl
    case hQ4w => exact fun _ _ _ h => h
    case hy4w =>
     refine Or.inl ⟨by rfl, ?_⟩;intro u hSw;have k0 := below_cell a0 hSw rfl; have k1 := below_cell a1 hSw rfl; have k2 := below_cell a2 hSw rfl; have k3 := below_cell a3 hSw rfl;clear hSw;go_simp
     (try with_reducible rfl)
    case hab4w => exact fun _ => rfl
    (try simp only [Act.put, qd, qe, qf])
    refine' anyM_take (i := 5) (oi := ?oi5w) (v := ?v5w) [5, 7, 8, 9] (by kernel_rfl) ?hi5w (by kernel_rfl) (by kernel_rfl) (by kernel_rfl) (by kernel_rfl) ?hQ5w ?hy5w ?hab5w hS ?rest5w
    case hi5w =>
     simp only [qa, qb, qc];exact rfl
    case hQ5w => exact fun _ _ _ h => h
    case hy5w =>
     refine Or.inl ⟨by rfl, ?_⟩;intro u hSw;have k0 := below_cell c0 hSw rfl;clear hSw;go_simp
     (try with_reducible rfl)
    case hab5w => exact fun _ => rfl
    (try simp only [Act.put, qd, qe, qf])
    refine' anyM_take (i := 6) (oi := ?oi6w) (v := ?v6w) [6, 7, 8, 9] (by kernel_rfl) ?hi6w (by kernel_rfl) (by kernel_rfl) (by kernel_rfl) (by kernel_rfl) ?hQ6w ?hy6w ?hab6w hS ?rest6w
    case hi6w =>
     simp only [qa, qb, qc];exact rfl
    case hQ6w => exact fun _ _ _ h => h
    case hy6w =>
     refine Or.inl ⟨by rfl, ?_⟩;intro u hSw;clear hSw;go_simp
     (try with_reducible rfl)
    case hab6w => exact fun _ => rfl
    (try simp only [Act.put, qd, qe, qf])
    refine' anyM_take (i := 7) (oi := ?oi7w) (v := ?v7w) [7, 8, 9] (by kernel_rfl) ?hi7w (by kernel_rfl) (by kernel_rfl) (by kernel_rfl) (by kernel_rfl) ?hQ7w ?hy7w ?hab7w hS ?rest7w
    case hi7w =>
     simp only [qa, qb, qc];exact rfl
    case hQ7w => exact fun _ _ _ h => h
    case hy7w =>
     refine Or.inl ⟨by rfl, ?_⟩;intro u hSw;clear hSw;go_simp
     (try with_reducible rfl)
    case hab7w => exact fun _ => rfl
    (try simp only [Act.put, qd, qe, qf])
    refine' anyM_only (i := 8) (o := ?oo8w) (by kernel_rfl) (by decide) ?ho8w ?hw8w (fun K hK => ?st8w)
    case ho8w =>
     simp only [qa, qb, qc];exact rfl
    case hw8w => rfl
    go_simp
    refine ⟨trivial, ?_⟩
    gi_at_call 103
    refine (callsIn_wide.2 (behind_any base g cap n now c HNK.out _ (N.below hS))).mono ?_;rintro e1 w1 ⟨rfl, hb1⟩;have hS := below_then hS hb1;clear hb1;go_simp
    refine hK _ _ hS ?_;clear hK K
    (try simp only [Act.put, qd, qe, qf])
    generalize Rx.behindN n now c = nx at *;have aN := aN.below hS;have a0 := aN.cell 0 _ rfl;have a1 := aN.cell 1 _ rfl;have a2 := aN.cell 2 _ rfl;have a3 := aN.cell 3 _ rfl;have z0 := aN.free 0 _ rfl;have z1 := aN.free 1 _ rfl;have z2 := aN.free 2 _ rfl;have z3 := aN.free 3 _ rfl;have nx0 := aN.lt;refine' anyM_last (o := ?oo9w) (by kernel_rfl) ?ho9w ?hw9w (fun K hK => ?st9w)
    case ho9w =>
     simp only [qa, qb, qc];exact rfl
    case hw9w => rfl
    go_simp
    refine hK _ _ ?_;clear hK K;refine anyIn_done (by kernel_rfl) ?_ _;have aR := aR.below hS;have aS := aS.below hS;have aX := aX.below hS;have N := N.below hS;have hbA : Below W.heap.size W3 w1 := hS.mono (by omega);have hbX : Below W.heap.size W3 ((((w1.setCell ⟨W.heap.size, 0, none⟩ (.int .u64 (word nx 0))).setCell ⟨W.heap.size, 1, none⟩ (.int .u64 (word nx 1))).setCell ⟨W.heap.size, 2, none⟩ (.int .u64 (word nx 2))).setCell ⟨W.heap.size, 3, none⟩ (.int .u64 (word nx 3))) :=
     (((hbA.setCell (p := ⟨W.heap.size, 0, none⟩) (Nat.le_refl _) _).setCell (p := ⟨W.heap.size, 1, none⟩) (Nat.le_refl _) _).setCell (p := ⟨W.heap.size, 2, none⟩) (Nat.le_refl _) _).setCell (p := ⟨W.heap.size, 3, none⟩) (Nat.le_refl _) _
    have jX := Lib.hid (HJ.out _ _ _ HJ3.out hbX);have xN := Lib.hid ((((aN.set 0 (.int .u64 (word nx 0))).set 1 (.int .u64 (word nx 1))).set 2 (.int .u64 (word nx 2))).set 3 (.int .u64 (word nx 3)));have xR := Lib.hid ((((aR.far (b' := W.heap.size) (j := 0) (by omega) (.int .u64 (word nx 0))).far (b' := W.heap.size) (j := 1) (by omega) (.int .u64 (word nx 1))).far (b' := W.heap.size) (j := 2) (by omega) (.int .u64 (word nx 2))).far (b' := W.heap.size) (j := 3) (by omega) (.int .u64 (word nx 3)));have xS := Lib.hid ((((aS.far (b' := W.heap.size) (j := 0) (by omega) (.int .u64 (word nx 0))).far (b' := W.heap.size) (j := 1) (by omega) (.int .u64 (word nx 1))).far (b' := W.heap.size) (j := 2) (by omega) (.int .u64 (word nx 2))).far (b' := W.heap.size) (j := 3) (by omega) (.int .u64 (word nx 3)));have xX := Lib.hid ((((aX.far (b' := W.heap.size) (j := 0) (by omega) (.int .u64 (word nx 0))).far (b' := W.heap.size) (j := 1) (by omega) (.int .u64 (word nx 1))).far (b' := W.heap.size) (j := 2) (by omega) (.int .u64 (word nx 2))).far (b' := W.heap.size) (j := 3) (by omega) (.int .u64 (word nx 3)));have xM := Lib.hid (N.same (w' := ((((w1.setCell ⟨W.heap.size, 0, none⟩ (.int .u64 (word nx 0))).setCell ⟨W.heap.size, 1, none⟩ (.int .u64 (word nx 1))).setCell ⟨W.heap.size, 2, none⟩ (.int .u64 (word nx 2))).setCell ⟨W.heap.size, 3, none⟩ (.int .u64 (word nx 3)))) (by simp) (fun y e => by have e2 := Option.some.inj e; dsimp only at e2; subst e2; exact set4_block (by omega)) (set4_block (by omega)));clear hbX hbA aN aR aS aX N hS a0 a1 a2 a3 z0 z1 z2 z3
    gi_wp2
    go_roundw
    case rel => exact ⟨k + 1, by omega, by go_num, jX.out, by rw [HNS.out]; exact xN.out, xR.out, xS.out, xX.out, xM.out⟩
    case measure => simp [intOf]; omega
   ·
    have HJ3 := Lib.hid hJx3;clear hR hJx3 hy
    gi_wp2
    go_end0
    exact ⟨⟨_, rfl⟩, .inr ⟨_, HP.out, HJ3.out⟩⟩
  ·
   obtain rfl : k = l.length := by omega
   have d1 : decide ((l.length : Int) < (s.size : Int)) = false := decide_eq_false (by omega);have d2 : decide (l.length < s.size) = false := decide_eq_false (by omega);generalize Rx.nowN n bg (l.take l.length) = now at *;have hall : (statesL n bg l).take (l.length + 1) = statesL n bg l := by rw [← states_len n bg l, List.take_length]
   rw [hall] at hR;clear hsz hall
   gi_wp2
   refine hR.mono ?_;rintro e W3 (⟨rfl, hJ3, hk3⟩ | ⟨rfl, hJx3⟩)
   ·
    have aS := aS.kc hk3 hn2;have c0 := aS.cell 0 _ rfl;have HJ3 := Lib.hid hJ3;clear hR hJ3 hy hk3
    gi_wp2
    go_end0
    exact ⟨⟨_, rfl⟩, .inl ⟨_, rfl, HJ3.out⟩⟩
   ·
    have HJ3 := Lib.hid hJx3;clear hR hJx3 hy
    gi_wp2
    go_end0
    exact ⟨⟨_, rfl⟩, .inr ⟨_, List.prefix_refl _, HJ3.out⟩⟩
end Go.Proofs.YthdoniefjmphaaaGreatDoor
/- regex: Match. -/
namespace Go.Proofs.YthdoniefjmphaaaGreatDoor
open Go Go.Proofs Go.RowKit Go.Shelf
set_option maxRecDepth 100000
attribute [local go_sem] Oper.semAt_some
theorem eq_words (w : World) (a0 a1 a2 a3 b0 b1 b2 b3 : Int) : (Op.equalIn 10000 104 (.agg #[.int .u64 a0, .int .u64 a1, .int .u64 a2, .int .u64 a3]) (.agg #[.int .u64 b0, .int .u64 b1, .int .u64 b2, .int .u64 b3])).run Tryz.prog w = .ok (a0 == b0 && (a1 == b1 && (a2 == b2 && a3 == b3))) w := by
 have hs : ∀ w, (sizeOf 101).run Tryz.prog w = .ok 1 w := fun w => by kernel_rfl
 have p0 : ∀ w x y z t, (part 101 #[x, y, z, t] 0).run Tryz.prog w = .ok x w := fun w x y z t => by kernel_rfl
 have p1 : ∀ w x y z t, (part 101 #[x, y, z, t] 1).run Tryz.prog w = .ok y w := fun w x y z t => by kernel_rfl
 have p2 : ∀ w x y z t, (part 101 #[x, y, z, t] 2).run Tryz.prog w = .ok z w := fun w x y z t => by kernel_rfl
 have p3 : ∀ w x y z t, (part 101 #[x, y, z, t] 3).run Tryz.prog w = .ok t w := fun w x y z t => by kernel_rfl
 have e : ∀ w a b, (Op.equalIn 9999 101 (.int .u64 a) (.int .u64 b)).run Tryz.prog w = .ok (a == b) w := fun w a b => run_equalIn_int w 9998 101 .u64 .u64 a b Tryz.underlying101
 show (Op.equalIn (9999 + 1) 104 _ _).run Tryz.prog w = _;unfold Op.equalIn;simp only [Sem.run_bind, run_underlying Tryz.underlying104, Result.andThen_ok, hs];rw [show (forIn (m := Sem) [:4] = forIn (m := Sem) (β := Option Bool × Unit) [0, 1, 2, 3]) from ?_]
 ·
  simp only [List.forIn_cons, List.forIn_nil, Sem.run_bind, Sem.run_ite, Result.andThen_ok, p0, e];generalize h0 : (a0 == b0) = r0;generalize h1 : (a1 == b1) = r1;generalize h2 : (a2 == b2) = r2;generalize h3 : (a3 == b3) = r3;cases r0 <;> cases r1 <;> cases r2 <;> cases r3 <;> simp [p1, p2, p3, e, h1, h2, h3, -beq_eq_false_iff_ne, -beq_iff_eq]
 ·
  funext b f
  rw [Std.Legacy.Range.forIn_eq_forIn_range'];rfl
theorem net_bits (p : Rx.Pt) : (∀ i, (Rx.beginN p).testBit i = true → i < (Rx.netN p).length) ∧ (∀ i j, Rx.edge (Rx.netN p) i j → j < (Rx.netN p).length) := by
 have g := Rx.build_good p [(0, 0)];have hs := g.sits;have k0 : (Rx.build p [(0, 0)]).2[0]? = some (0, 0) := g.keeps 0 (by simp);unfold Rx.beginN Rx.netN;generalize Rx.build p [(0, 0)] = X at *;obtain ⟨x, n⟩ := X;simp only at *;have l1 : ([(0, 0)] : Rx.Nt).length = 1 := rfl;rw [l1] at hs;have hpos : 0 < n.length := by
  have := (List.getElem?_eq_some_iff.1 k0).1; exact this
 rw [Rx.joinN_length];constructor
 ·
  intro i h;have h2 : x.first.testBit i = true ∨ i = 0 := by
   revert h;cases x.none
   ·
    exact fun q => Or.inl q
   ·
    simp only [if_true, Rx.or_bit, Rx.one_bit]; exact id
  rcases h2 with h2 | h2
  ·
   exact (hs.first i h2).2
  ·
   omega
 ·
  intro i j h;rcases Rx.edge_join.1 h with e | ⟨_, _, e⟩
  ·
   obtain ⟨y, hy, hj⟩ := e;rcases Nat.eq_zero_or_pos i with h0 | h0
   ·
    subst h0; rw [k0] at hy; cases hy; simp at hj
   ·
    exact (hs.edges i j h0 (List.getElem?_eq_some_iff.1 hy).1 ⟨y, hy, hj⟩).2
  ·
   have := Rx.one_bit.1 e; omega
def zeroW (x : Nat) : Bool := word x 0 == 0 && (word x 1 == 0 && (word x 2 == 0 && word x 3 == 0))
theorem zero_bits {x : Nat} (h : zeroW x = true) : ∀ i, i < 256 → x.testBit i = false := by
 unfold zeroW at h;simp only [Bool.and_eq_true, beq_iff_eq] at h;obtain ⟨h0, h1, h2, h3⟩ := h;intro i hi;have key : ∀ q, q < 4 → wordN x q = 0 := by
  intro q hq;have hc : q = 0 ∨ q = 1 ∨ q = 2 ∨ q = 3 := by omega
  unfold word at h0 h1 h2 h3;rcases hc with rfl | rfl | rfl | rfl <;> omega
 have hw := wordN_bit x (i / 64) (i % 64) (Nat.mod_lt _ (by decide));rw [key (i / 64) (by omega), Nat.zero_testBit, Nat.div_add_mod] at hw;exact hw.symm
theorem dead_end (n : Rx.Nt) (x : Nat) (h : zeroW x = true) (u : List UInt8) : (Rx.nowN n x u).testBit 0 = false := by
 have hz := zero_bits h;cases u with
 | nil => exact hz 0 (by decide)
 | cons c u =>
  have he : Rx.elems x = [] := by
   apply List.eq_nil_iff_forall_not_mem.2;intro i hi;have := Rx.elems_mem.1 hi;rw [hz i this.1] at this; cases this.2
  have hb : ∀ c, Rx.behindN n 0 c = 0 := fun c => by unfold Rx.behindN Rx.elems; rw [Rx.bl_zero]; rfl
  have h0 : ∀ u : List UInt8, Rx.nowN n 0 u = 0 := by
   intro u;induction u with
   | nil => rfl
   | cons c u ih => show Rx.nowN n (Rx.behindN n 0 c) u = 0; rw [hb]; exact ih
  show (Rx.nowN n (Rx.behindN n x c) u).testBit 0 = false;have : Rx.behindN n x c = 0 := by unfold Rx.behindN; rw [he]; rfl
  rw [this, h0]; rfl
theorem shas_w (m x : Nat) (hx : x < 256) (w : World) :
  Calls Tryz.prog 81 #[.agg #[.int .u64 (word m 0), .int .u64 (word m 1), .int .u64 (word m 2), .int .u64 (word m 3)], .int .u8 (x : Int)] w fun e w' => e = .returned (.bool (m.testBit x)) ∧ Below w.heap.size w w' := shas_any m x hx w
theorem rxwalkin (rb : Nat) (s : ByteArray) (w : World) :
  CallsIn Fence.wide 8 Tryz.prog 80 #[.pointer (some ⟨rb, 0, none⟩), .string s] w fun e w' => e = .returned (.func (.func 102) #[] #[.pointer (some ⟨w.heap.size, 0, none⟩), .pointer (some ⟨w.heap.size + 1, 0, none⟩)]) ∧ w' = (w.alloc (.cells #[.pointer (some ⟨rb, 0, none⟩)] 83)).alloc (.cells #[.string s] 9) := by
 refine callsIn_of_wp Tryz.func80 rfl trivial ?_ rfl;simp only [Tryz.ntmps80, List.size_toArray, List.length_cons, List.length_nil, Nat.reduceAdd, Nat.reduceSub, Array.replicate_succ, Array.replicate_zero, List.push_toArray, List.append_toArray, List.nil_append, List.cons_append]
 gi_wp2
 go_ret
 exact ⟨rfl, rfl⟩
structure MI (w W0 : World) (x : Nat) (W : World) : Prop where
 sz : W0.heap.size ≤ W.heap.size
 b0 : At W w.heap.size [.bool false]
 b1 : At W (w.heap.size + 1) [.int .u64 (word (x) 0), .int .u64 (word (x) 1), .int .u64 (word (x) 2), .int .u64 (word (x) 3)]
 gr : Below w.heap.size w W
theorem MI.low {w W0 W W' : World} {x : Nat} (h : MI w W0 x W) (hz : w.heap.size + 1 < W0.heap.size) (hb : Below W0.heap.size W W') : MI w W0 x W' :=
 ⟨Nat.le_trans h.sz hb.size, h.b0.low hb (by omega), h.b1.low hb (by omega), h.gr.trans (hb.mono (by omega))⟩
def lastS (pre : List Nat) : Nat := pre.getLast?.getD 0
theorem lastS_snoc (pre : List Nat) (x : Nat) : lastS (pre ++ [x]) = x := by unfold lastS; simp
theorem states_last (n : Rx.Nt) (bg : Nat) (l : List UInt8) : lastS (statesL n bg l) = Rx.nowN n bg l := by
 unfold lastS statesL;rw [List.range_succ, List.map_append];simp
theorem pre_last (n : Rx.Nt) (bg : Nat) (l : List UInt8) (pre : List Nat) (h : pre <+: statesL n bg l) (hne : pre ≠ []) : ∃ k, k ≤ l.length ∧ lastS pre = Rx.nowN n bg (l.take k) := by
 obtain ⟨t, ht⟩ := h;have hp : 0 < pre.length := List.length_pos_iff.2 hne;have hlen : pre.length ≤ l.length + 1 := by rw [← states_len n bg l, ← ht, List.length_append]; omega
 refine ⟨pre.length - 1, by omega, ?_⟩;have h1 : pre[pre.length - 1]? = (statesL n bg l)[pre.length - 1]? := by rw [← ht, List.getElem?_append_left (by omega)]
 unfold lastS;rw [List.getLast?_eq_getElem?, h1];unfold statesL;rw [List.getElem?_map, List.getElem?_range (by omega)]; rfl
theorem now_split (n : Rx.Nt) (bg : Nat) (l : List UInt8) (k : Nat) : Rx.nowN n bg l = Rx.nowN n (Rx.nowN n bg (l.take k)) (l.drop k) := by
 unfold Rx.nowN;rw [← List.foldl_append, List.take_append_drop]
set_option maxHeartbeats 4000000 in
theorem match_any (base rb : Nat) (s sp : ByteArray) (l lp : List UInt8) (hud : s.data.toList = l) (hl : l.length ≤ 1000) (p : Rx.Pt) (w : World) (hX : RxAt base rb sp lp p w) :
  Calls Tryz.prog 60 #[.pointer (some ⟨rb, 0, none⟩), .string s] w fun e w' => e = .returned (.bool (Rx.matchN p l)) ∧ Below w.heap.size w w' := by
 obtain ⟨g, cap, _, aX, N⟩ := hX;obtain ⟨hb, he⟩ := net_bits p;have hres : Rx.matchN p l = (Rx.nowN (Rx.netN p) (Rx.beginN p) l).testBit 0 := rfl;have HRES := Lib.hid hres;have hlt := N.tab.lt;have hrb := aX.lt;have hg := (N.lt g rfl).2;generalize Rx.netN p = n at *;generalize Rx.beginN p = bg at *;clear hres;refine (callsIn_wide (n := 9)).1 ?_;refine callsIn_of_wp_marks Tryz.func60 rfl trivial ?_ rfl;simp only [Tryz.ntmps60, List.size_toArray, List.length_cons, List.length_nil, Nat.reduceAdd, Nat.reduceSub, Array.replicate_succ, Array.replicate_zero, List.push_toArray, List.append_toArray, List.nil_append, List.cons_append];have HB := Lib.hid hb;have HE := Lib.hid he;have HX := Lib.hid aX;have HN := Lib.hid N;have HUD := Lib.hid hud;clear hb he aX N hud
 gi_wp2
 refine ⟨trivial, (rxwalkin rb s _).mono ?_⟩;rintro e w1 ⟨rfl, rfl⟩
 gi_wp2
 obtain ⟨W0, hW0⟩ : ∃ W0, ((((w.alloc (.cells #[.bool false] 4)).alloc (.cells #[.int .u64 0, .int .u64 0, .int .u64 0, .int .u64 0] 104)).alloc (.cells #[.pointer (some ⟨rb, 0, none⟩)] 83)).alloc (.cells #[.string s] 9)) = W0 := ⟨_, rfl⟩;have hlp : Below w.heap.size w W0 := by rw [← hW0]; go_grown
 have hsz : W0.heap.size = w.heap.size + 4 := by rw [← hW0]; simp
 have b00 : At W0 w.heap.size [.bool false] := by rw [← hW0]; exact (((At.new _ _ _).alloc _).alloc _).alloc _
 have b10 : At W0 (w.heap.size + 1) [.int .u64 (word (0) 0), .int .u64 (word (0) 1), .int .u64 (word (0) 2), .int .u64 (word (0) 3)] := by
  simp only [word_zero];rw [← hW0];have h := ((At.new (w.alloc (.cells #[.bool false] 4)) #[.int .u64 0, .int .u64 0, .int .u64 0, .int .u64 0] 104).alloc (.cells #[.pointer (some ⟨rb, 0, none⟩)] 83)).alloc (.cells #[.string s] 9);simpa using h
 have bR0 : At W0 (w.heap.size + 1 + 1) [.pointer (some ⟨rb, 0, none⟩)] := by
  rw [← hW0];have h := (At.new ((w.alloc (.cells #[.bool false] 4)).alloc (.cells #[.int .u64 0, .int .u64 0, .int .u64 0, .int .u64 0] 104)) #[.pointer (some ⟨rb, 0, none⟩)] 83).alloc (.cells #[.string s] 9);simpa using h
 have bS0 : At W0 (w.heap.size + 1 + 1 + 1) [.string s] := by
  rw [← hW0];have h := At.new (((w.alloc (.cells #[.bool false] 4)).alloc (.cells #[.int .u64 0, .int .u64 0, .int .u64 0, .int .u64 0] 104)).alloc (.cells #[.pointer (some ⟨rb, 0, none⟩)] 83)) #[.string s] 9;simpa using h
 have aX0 := HX.out.below hlp;have N0 := HN.out.below hlp;have hI0 : MI w W0 (lastS []) W0 := ⟨Nat.le_refl _, b00, b10, hlp⟩;rw [hW0];clear hW0;have hseq : SeqStopsB Fence.wide (9 - 1) Tryz.prog 102 #[.pointer (some ⟨w.heap.size + 1 + 1, 0, none⟩), .pointer (some ⟨w.heap.size + 1 + 1 + 1, 0, none⟩)] (fun x : Nat => #[.agg #[.int .u64 (word (x) 0), .int .u64 (word (x) 1), .int .u64 (word (x) 2), .int .u64 (word (x) 3)]]) (KC (w.heap.size + 1)) (fun ys => ys = statesL n bg l) (fun pre => pre <+: statesL n bg l) (l.length + 1) W0 :=
  fun l' J Jx W hW hJ hY h0 => walk1_in base rb (w.heap.size + 1 + 1) (w.heap.size + 1 + 1 + 1) (w.heap.size + 1) g cap s sp l HUD.out hl n bg (fun i _ h => HB.out i h) HE.out (by omega) (by omega) (by omega) (by omega) (by omega) l' J Jx W hJ hY (bR0.below hW) (bS0.below hW) (aX0.below hW) (N0.below hW) (by have := hW.size; omega) h0
 refine rangeB (F := Fence.wide) (n := 9) rfl (by omega) (gf := 102) (lb := #[.pointer (some ⟨w.heap.size + 1 + 1, 0, none⟩), .pointer (some ⟨w.heap.size + 1 + 1 + 1, 0, none⟩)]) rfl trivial (enters_of Tryz.func102 (by kernel_rfl) rfl)
  hseq (fun h k => KC.trans h k) (fun W q o o' hq h ho => ⟨by simp, fun k c T fz hk h2 => by rw [World.putObj_heap_other (fun e => by subst e; rw [h2] at h; cases h; cases ho)]; exact h2⟩) (Below.refl _ _) (fun _ => rfl)
  (fun pre W => MI w W0 (lastS pre) W)
  (fun c pre W => c = .ret ∧ MI w W0 (lastS pre) W ∧ zeroW (lastS pre) = true ∧ pre ≠ [])
  (fun s A B h hb => h.low (by omega) hb)
  (fun c s A B h hb => ⟨h.1, h.2.1.low (by omega) hb, h.2.2⟩) hI0
  (fun pre x a' W => MI w W0 x W ∧ a' = { tmps := #[.pointer (some ⟨rb, 0, none⟩), .string s, undef, undef, .pointer (some ⟨w.heap.size, 0, none⟩), .pointer (some ⟨w.heap.size + 1, 0, none⟩), .pointer (some ⟨rb, 0, none⟩), .string s, .func (.func 102) #[] #[.pointer (some ⟨w.heap.size + 1 + 1, 0, none⟩), .pointer (some ⟨w.heap.size + 1 + 1 + 1, 0, none⟩)], .agg #[.int .u64 (word (x) 0), .int .u64 (word (x) 1), .int .u64 (word (x) 2), .int .u64 (word (x) 3)], undef, undef, undef, undef, undef], defers := [] })
  (fun s x a' A B h hb => ⟨h.1.low (by omega) hb, h.2⟩) ?assign ?body ?done ?stop
 case assign =>
  rintro l' pre x W K hI hK;obtain ⟨isz, i0, i1, igr⟩ := hI;have y0 := i1.cell 0 _ rfl;have y1 := i1.cell 1 _ rfl;have y2 := i1.cell 2 _ rfl;have y3 := i1.cell 3 _ rfl;have z0 := i1.free 0 _ rfl;have z1 := i1.free 1 _ rfl;have z2 := i1.free 2 _ rfl;have z3 := i1.free 3 _ rfl;have ny := i1.lt
  gi_wp2
  have b1 := (((i1.set 0 (.int .u64 (word x 0))).set 1 (.int .u64 (word x 1))).set 2 (.int .u64 (word x 2))).set 3 (.int .u64 (word x 3));have b0 := (((i0.far (b' := w.heap.size + 1) (j := 0) (by omega) (.int .u64 (word x 0))).far (b' := w.heap.size + 1) (j := 1) (by omega) (.int .u64 (word x 1))).far (b' := w.heap.size + 1) (j := 2) (by omega) (.int .u64 (word x 2))).far (b' := w.heap.size + 1) (j := 3) (by omega) (.int .u64 (word x 3));have gr := (((igr.setCell (p := ⟨w.heap.size + 1, 0, none⟩) (by dsimp only; omega) (.int .u64 (word x 0))).setCell (p := ⟨w.heap.size + 1, 1, none⟩) (by dsimp only; omega) (.int .u64 (word x 1))).setCell (p := ⟨w.heap.size + 1, 2, none⟩) (by dsimp only; omega) (.int .u64 (word x 2))).setCell (p := ⟨w.heap.size + 1, 3, none⟩) (by dsimp only; omega) (.int .u64 (word x 3));exact hK _ _ ⟨by simp, fun k o hk h0 ho => (set4_block (by omega)).trans h0⟩ ⟨by simp, fun k c T fz hk h0 => (set4_block hk).trans h0⟩ ⟨⟨by simpa using isz, b0, b1, gr⟩, rfl⟩
 case body =>
  rintro l' pre x a' W ⟨hI, rfl⟩ hlen;have HI := Lib.hid hI;obtain ⟨isz, i0, i1, igr⟩ := hI;have y0 := i1.cell 0 _ rfl;have y1 := i1.cell 1 _ rfl;have y2 := i1.cell 2 _ rfl;have y3 := i1.cell 3 _ rfl;have w0 := i0.cell 0 _ rfl;have z0 := i0.free 0 _ rfl;have nz := i0.lt;have heq : ∀ w', Sem.run Tryz.prog (Op.equalIn 10000 104 (.agg #[.int .u64 (word (x) 0), .int .u64 (word (x) 1), .int .u64 (word (x) 2), .int .u64 (word (x) 3)]) (.agg #[.int .u64 0, .int .u64 0, .int .u64 0, .int .u64 0])) w' = .ok (zeroW x) w' := fun w' => eq_words w' _ _ _ _ _ _ _ _
  have hsn := lastS_snoc pre x;have HSN := Lib.hid hsn;clear hsn;generalize hzz : zeroW x = zz at *;have HZZ := Lib.hid hzz;clear hzz;cases zz
  ·
   gi_wp2
   refine ⟨(KeepsOthers.refl _).from _, ⟨Nat.le_refl _, fun k c T fz _ h => h⟩, ?_⟩
   (try dsimp only)
   rw [HSN.out]; exact HI.out
  ·
   gi_wp2
   refine ⟨⟨by simp, fun k o hk h0 ho => (Below.heap_setCell _ _ _ _ (by dsimp only; omega)).trans h0⟩, rfl, ?_, ?_, by simp⟩
   ·
    rw [HSN.out];exact ⟨by simpa using isz, i0.set 0 _, i1.far (by omega) _, igr.setCell (Nat.le_refl _) _⟩
   ·
    rw [HSN.out]; exact HZZ.out
 case done =>
  rintro D ys V hD hys hI hK;have hl2 : lastS ys = Rx.nowN n bg l := by rw [hys]; exact states_last n bg l
  rw [hl2] at hI;have HI := Lib.hid hI;have HK := Lib.hid hK;clear hys hl2 hK;generalize Rx.nowN n bg l = x at *;obtain ⟨isz, i0, i1, igr⟩ := hI;have y0 := i1.cell 0 _ rfl;have y1 := i1.cell 1 _ rfl;have y2 := i1.cell 2 _ rfl;have y3 := i1.cell 3 _ rfl
  gi_wp2
  refine ⟨trivial, (callsIn_wide.2 (shas_w x 0 (by omega) _)).mono ?_⟩;rintro e w1 ⟨rfl, hb⟩;generalize x.testBit 0 = tb at *;have i0 := HI.out.b0.below hb;have w0 := i0.cell 0 _ rfl;have z0 := i0.free 0 _ rfl;have nz := i0.lt;have hK2 := Lib.hid ((hb.block D (Array.getElem?_eq_some_iff.1 HK.out).1).trans HK.out);have hG := Lib.hid (HI.out.gr.trans (hb.mono (by omega)));clear HI HK hb
  gi_wp2
  have i2 := i0.set 0 (.bool tb);have hK3 := (Below.heap_setCell w1 ⟨w.heap.size, 0, none⟩ (.bool tb) D (by dsimp only; omega)).trans hK2.out;have hG2 := hG.out.setCell (p := ⟨w.heap.size, 0, none⟩) (Nat.le_refl _) (.bool tb);generalize w1.setCell ⟨w.heap.size, 0, none⟩ (.bool tb) = X at *;refine ⟨by simp, .inl ⟨_, _, rfl, run_takeDeferred hK3, ?_⟩⟩;have hY := at_put i2 (show w.heap.size ≠ D by omega) (.deferred none);have q0 := hY.cell 0 _ rfl;refine ⟨_, by simp [results, Tryz.results60, go_sem, q0]; try rfl, by rw [HRES.out], ?_⟩;exact hG2.trans (belowK_b (w := w) (Nat.le_refl _) X D _ _ (by omega) hK3 rfl rfl)
 case stop =>
  rintro D c pre V hD hs ⟨rfl, hI, hzz, hne⟩ hK;obtain ⟨k, hk, hk2⟩ := pre_last n bg l pre hs hne;have hfin : Rx.matchN p l = false := by
   rw [HRES.out, now_split n bg l k, ← hk2];exact dead_end n _ hzz _
  have HF := Lib.hid hfin;obtain ⟨isz, i0, i1, igr⟩ := hI;clear hfin hk hk2 hzz hs
  gi_wp2
  refine ⟨by simp, .inl ⟨_, _, rfl, run_takeDeferred hK, ?_⟩⟩;have hY := at_put i0 (show w.heap.size ≠ D by omega) (.deferred none);have q0 := hY.cell 0 _ rfl;refine ⟨_, by simp [results, Tryz.results60, go_sem, q0]; try rfl, by rw [HF.out], ?_⟩;exact igr.trans (belowK_b (w := w) (Nat.le_refl _) V D _ _ (by omega) hK rfl rfl)
end Go.Proofs.YthdoniefjmphaaaGreatDoor
