/- line.Text: the statement ahead of the loop, in any order. -/
import Derived.Test.YtgldieboflmnhaaGreatDoorLine
import Derived.Test.YtgldieboflmnhaaGreatDoorAppG
import Derived.Test.YtgldieboflmnhaaGreatDoorWords
import Derived.Test.YtgldieboflmnhaaGreatDoorStates
import Derived.Test.YtgldieboflmnhaaGreatDoorHeldD
import Derived.Test.YtgldieboflmnhaaGreatDoorBack
import Derived.Lib.ItoaLen
namespace Go.Proofs.YtgldieboflmnhaaGreatDoor
open Go Go.Proofs Go.RowKit Go.Shelf
set_option maxRecDepth 100000
attribute [local go_sem] Oper.semAt_some
theorem wpOp_go {F : Fence} {n : Nat} {P : Program} {ops : Array Oper} {Q : Exit → Act → World → Prop} {i : Nat} {o : Oper} {K : Act → World → Prop} {a : Act} {w : World} (ho : ops[i]? = some o) (hw : Region.wanted o (yielded ops a.tmps) = true) (h : ∀ K' : Act → World → Prop, (∀ b u, K b u → K' b u) → o.wpIn F n P a w K' Q) : wpOpIn F n P ops Q i K a w := by
  unfold wpOpIn
  simp only [ho]
  rw [if_pos hw]
  exact h K (fun _ _ hh => hh)
theorem blk_on {w w1 : World} {b : Nat} {cs : Array Value} {T : TypeId} (h : Blk w b cs T) (hb : Below w.heap.size w w1) : Blk w1 b cs T := (hb.block b (Array.getElem?_eq_some_iff.1 h).1).trans h
theorem blk_at {w : World} {b : Nat} {cs : Array Value} {T : TypeId} (h : Blk w b cs T) : At w b cs.toList := At.of_block h
theorem blk_new (w : World) (cs : Array Value) (T : TypeId) : Blk (w.alloc (.cells cs T)) w.heap.size cs T := heap_alloc_new w _
theorem blk_far {w : World} {b b' j : Nat} {cs : Array Value} {T : TypeId} (h : Blk w b cs T) (hne : b ≠ b') (x : Value) : Blk (w.setCell ⟨b', j, none⟩ x) b cs T := (Below.heap_setCell w ⟨b', j, none⟩ x b hne).trans h
theorem blk_ne {w : World} {b b' : Nat} {cs cs' : Array Value} {T T' : TypeId} (h : Blk w b cs T) (h' : Blk w b' cs' T') (hne : T ≠ T') : b ≠ b' := by
  rintro rfl
  unfold Blk at h h'
  rw [h] at h'
  cases h'
  exact hne rfl
/-- what lies in memory while the statement goes, by what is done of it -/
structure TM (w u : World) (sl : Value) (va tm sr sq : Int) (T : List UInt8) (d : Nat → Bool) (t3 t4 t9 : Value) : Prop where
  bel : Below w.heap.size w u
  box : Blk u w.heap.size #[sl, .int .i64 va, .int .i64 tm, .int .i64 sr, .int .i64 sq] 25
  row : d 3 = true → ∃ g cap, t9 = .slice (some ⟨g, 0, none⟩) T.length cap ∧ OwnG u (w.heap.size + 1) 5 t9 T.length (Lib.byteCells T)
  b3 : d 6 = true → ∃ b, t3 = .pointer (some ⟨b, 0, none⟩) ∧ w.heap.size < b ∧ Blk u b #[if d 8 = true then t9 else .slice none 0 0] 56
  b4 : d 7 = true → ∃ b, t4 = .pointer (some ⟨b, 0, none⟩) ∧ w.heap.size < b ∧ Blk u b (if d 9 = true then #[.int .i64 va, .int .i64 tm, .int .i64 sr, .int .i64 sq] else #[.int .i64 0, .int .i64 0, .int .i64 0, .int .i64 0]) 51
  e8 : d 8 = true → d 6 = true ∧ d 3 = true
  e9 : d 9 = true → d 7 = true
theorem TM.on {w u u' : World} {sl : Value} {va tm sr sq : Int} {T : List UInt8} {d : Nat → Bool} {t3 t4 t9 : Value} (h : TM w u sl va tm sr sq T d t3 t4 t9) (hb : Below u.heap.size u u') : TM w u' sl va tm sr sq T d t3 t4 t9 :=
  ⟨below_then h.bel hb, blk_on h.box hb, fun q => by obtain ⟨g, c, e, h1⟩ := h.row q; exact ⟨g, c, e, h1.below hb⟩, fun q => by obtain ⟨b, e, h1, h2⟩ := h.b3 q; exact ⟨b, e, h1, blk_on h2 hb⟩, fun q => by obtain ⟨b, e, h1, h2⟩ := h.b4 q; exact ⟨b, e, h1, blk_on h2 hb⟩, h.e8, h.e9⟩
/-- something else is done -/
theorem TM.mark {w u : World} {sl : Value} {va tm sr sq : Int} {T : List UInt8} {d : Nat → Bool} {t3 t4 t9 : Value} (h : TM w u sl va tm sr sq T d t3 t4 t9) (i : Nat) (h3 : i ≠ 3) (h6 : i ≠ 6) (h7 : i ≠ 7) (h8 : i ≠ 8) (h9 : i ≠ 9) : TM w u sl va tm sr sq T (fun j => if j = i then true else d j) t3 t4 t9 := by
  refine ⟨h.bel, h.box, fun q => h.row ?_, fun q => ?_, fun q => ?_, fun q => ?_, fun q => ?_⟩
  · simpa [Ne.symm h3] using q
  · simpa [Ne.symm h8] using h.b3 (by simpa [Ne.symm h6] using q)
  · simpa [Ne.symm h9] using h.b4 (by simpa [Ne.symm h7] using q)
  · simpa [Ne.symm h6, Ne.symm h3] using h.e8 (by simpa [Ne.symm h8] using q)
  · simpa [Ne.symm h7] using h.e9 (by simpa [Ne.symm h9] using q)
theorem blk_set {w : World} {b j : Nat} {cs : Array Value} {T : TypeId} (h : Blk w b cs T) (x : Value) : Blk (w.setCell ⟨b, j, none⟩ x) b (cs.setIfInBounds j x) T := by
  unfold Blk at *
  rw [setCell_eq_setRow w b j cs T (0, 0) x h]
  exact setRow_heap w b cs _ T _ h
theorem oper_conv {F : Fence} {n : Nat} {P : Program} {Q : Exit → Act → World → Prop} {o : Oper} {a : Act} {w w' : World} {K : Act → World → Prop} (src dst : TypeId) (x : Operand) (ho : o.op = .convert src dst x) {v v' : Value} (hx : a.eval x = v)
    (hr : (convert src dst v).run P w = .ok v' w') (hK : K (a.put o.dst v') w') : o.wpIn F n P a w K Q := by
  unfold Oper.wpIn
  refine ⟨?_, ?_⟩
  · simp [Oper.about, ho]
  · rw [Oper.semAt_plain F _ _ (by rw [ho]; intro c hc'; cases hc')]
    simp [execOp, ho, hx, hr, Result.andThen]
    exact hK
/-- what the places hold, by what is done -/
structure TS (w u : World) (sl : Value) (va tm sr sq : Int) (T : List UInt8) (d : Nat → Bool) (t3 t4 t6 t7 t8 t9 t10 t11 : Value) : Prop where
  m : TM w u sl va tm sr sq T d t3 t4 t9
  f0 : d 0 = true → t6 = .pointer (some ⟨w.heap.size, 0, none⟩)
  f1 : d 1 = true → t7 = sl
  f2 : d 2 = true → t8 = .string ⟨T.toArray⟩
  f4 : d 4 = true → t10 = sampV sl va tm sr sq
  f5 : d 5 = true → t11 = numV va tm sr sq
def textAct (w : World) (sl : Value) (va tm sr sq : Int) (t3 t4 t6 t7 t8 t9 t10 t11 : Value) : Act := { tmps := #[sampV sl va tm sr sq, .pointer (some ⟨w.heap.size, 0, none⟩), .string ⟨#[]⟩, t3, t4, undef, t6, t7, t8, t9, t10, t11, undef, undef, undef, undef, undef, undef, undef, undef, undef, undef, undef, undef, undef], defers := [] }
theorem ns (i : Nat) (d : Nat → Bool) {j : Nat} (h : (fun j => if j = i then true else d j) j = true) (hne : j ≠ i) : d j = true := by simpa [hne] using h
/-- one operation of that statement: the world it leaves, the places -/
theorem TS.mem {w u : World} {sl : Value} {va tm sr sq : Int} {T : List UInt8} {d : Nat → Bool} {t3 t4 t6 t7 t8 t9 t10 t11 : Value} (h : TS w u sl va tm sr sq T d t3 t4 t6 t7 t8 t9 t10 t11) {u' : World} {d' : Nat → Bool} {t3' t4' t9' : Value} (hm : TM w u' sl va tm sr sq T d' t3' t4' t9') (h0 : d' 0 = true → d 0 = true) (h1 : d' 1 = true → d 1 = true) (h2 : d' 2 = true → d 2 = true) (h4 : d' 4 = true → d 4 = true) (h5 : d' 5 = true → d 5 = true) : TS w u' sl va tm sr sq T d' t3' t4' t6 t7 t8 t9' t10 t11 :=
  ⟨hm, fun q => h.f0 (h0 q), fun q => h.f1 (h1 q), fun q => h.f2 (h2 q), fun q => h.f4 (h4 q), fun q => h.f5 (h5 q)⟩
theorem bcells_app' (a b : List UInt8) : Lib.byteCells (a ++ b) = Lib.byteCells a ++ Lib.byteCells b := by simp [Lib.byteCells]
theorem str_of_G {P : Program} {w : World} {base n : Nat} {src dst e : TypeId} {v : Value} {l : List UInt8} (h : OwnG w base e v n (Lib.byteCells l)) (hs : P.underlying src = some (.slice e)) (he : P.underlying e = some (.int .u8)) (hd : P.underlying dst = some .string) : (convert src dst v).run P w = .ok (.string ⟨l.toArray⟩) w := by
  have hl : n = l.length := by have := h.1; simp [Lib.byteCells] at this; omega
  subst hl
  have hc := fun g => OwnG.cells h (g := g)
  rcases h.2 with ⟨rfl, hn⟩ | ⟨g, cap, cur, fz, rfl, _⟩
  · obtain rfl : l = [] := List.eq_nil_of_length_eq_zero hn
    rw [run_convert_bytes_string w src dst e none 0 0 hs he hd]; rfl
  · exact run_convert_bytes_back w src dst e ⟨g, 0, none⟩ cap l hs he hd (fun j hj => hc g rfl j _ (by simp [Lib.byteCells]; exact ⟨_, List.getElem?_eq_getElem hj, rfl⟩))
theorem grownG_keepsT {W w1 : World} {B : Nat} {e : TypeId} {v : Value} {n : Nat} {xs : List Value} (B' : Nat) (h : OwnG W B e v n xs) (hg : W.grownBy w1 v.ownBlock) : KeepsT e B' W w1 :=
  KeepsT.grown hg (fun r hr => h.kind r hr)
theorem grownG_others {W w1 : World} {B : Nat} {e : TypeId} {v : Value} {n : Nat} {xs : List Value} (h : OwnG W B e v n xs) (hg : W.grownBy w1 v.ownBlock) : Lib.OthersKept e none W w1 := (Lib.OthersKept.refl _ _ _).grown hg h.kind
theorem blk_oth {w w1 : World} {b : Nat} {cs : Array Value} {T e : TypeId} (h : Blk w b cs T) (hk : Lib.OthersKept e none w w1) (hne : T ≠ e) : Blk w1 b cs T := hk b _ h (by simp) (fun c fz e' => by cases e'; exact hne rfl)
/-- the numbers of a sample, in a line's order -/
def numAt (va tm sr sq : Int) : Fin 4 → Int
  | 0 => va
  | 1 => tm
  | 2 => sr
  | 3 => sq
theorem num_cell {W : World} {b4 : Nat} {va tm sr sq : Int} {T : TypeId} (h : Blk W b4 #[.int .i64 va, .int .i64 tm, .int .i64 sr, .int .i64 sq] T) : ∀ k : Fin 4, W.cell? ⟨b4, k.val, none⟩ = some (.int .i64 (numAt va tm sr sq k))
  | 0 => (blk_at h).cell 0 _ rfl
  | 1 => (blk_at h).cell 1 _ rfl
  | 2 => (blk_at h).cell 2 _ rfl
  | 3 => (blk_at h).cell 3 _ rfl
/-- the text behind some of the words -/
def lineRun (va tm sr sq : Int) (T : List UInt8) (pre : List (Fin 4)) : List UInt8 := pre.foldl (fun s k => s ++ markL k ++ Lib.itoa (numAt va tm sr sq k)) T
theorem lineRun_snoc (va tm sr sq : Int) (T : List UInt8) (pre : List (Fin 4)) (k : Fin 4) : lineRun va tm sr sq T (pre ++ [k]) = lineRun va tm sr sq T pre ++ markL k ++ Lib.itoa (numAt va tm sr sq k) := by
  unfold lineRun; rw [List.foldl_append]; rfl
def I64 (x : Int) : Prop := -9223372036854775808 ≤ x ∧ x ≤ 9223372036854775807
theorem numAt_ok {va tm sr sq : Int} (h0 : I64 va) (h1 : I64 tm) (h2 : I64 sr) (h3 : I64 sq) : ∀ k, I64 (numAt va tm sr sq k)
  | 0 => h0
  | 1 => h1
  | 2 => h2
  | 3 => h3
theorem markL_pos : ∀ k : Fin 4, 1 ≤ (markL k).length := by decide
theorem ownG_some {w : World} {B : Nat} {e : TypeId} {v : Value} {n : Nat} {xs : List Value} (h : OwnG w B e v n xs) (hn : 0 < n) : ∃ g cap, v = .slice (some ⟨g, 0, none⟩) n cap := by
  rcases h.2 with ⟨_, h0⟩ | ⟨g, cap, cur, fz, e, _⟩
  · omega
  · exact ⟨g, cap, e⟩
theorem markL_len : ∀ k : Fin 4, (markL k).length ≤ 2 := by decide
theorem lineRun_len {va tm sr sq : Int} (hn : ∀ k, I64 (numAt va tm sr sq k)) (T : List UInt8) (pre : List (Fin 4)) : (lineRun va tm sr sq T pre).length ≤ T.length + 23 * pre.length := by
  unfold lineRun
  induction pre generalizing T with
  | nil => simp
  | cons k t ih =>
    rw [List.foldl_cons]
    have h1 := ih (T ++ markL k ++ Lib.itoa (numAt va tm sr sq k))
    have h2 := markL_len k
    have h3 := Lib.itoa_length_le _ (hn k).1 (hn k).2
    rw [List.length_append, List.length_append] at h1
    rw [List.length_cons]
    omega
/-- what a line of a sample is -/
def lineR (zs : List SLab) (va tm sr sq : Int) : List UInt8 := lineRun va tm sr sq (textL zs) [0, 1, 2, 3]
/-- behind each word: the bytes so far, in a box; the numbers -/
def LI (w : World) (b3 b4 : Nat) (va tm sr sq : Int) (T : List UInt8) (pre : List (Fin 4)) (W : World) : Prop :=
  (∃ v, Blk W b3 #[v] 56 ∧ OwnG W (w.heap.size + 1) 5 v (lineRun va tm sr sq T pre).length (Lib.byteCells (lineRun va tm sr sq T pre))) ∧ Blk W b4 #[.int .i64 va, .int .i64 tm, .int .i64 sr, .int .i64 sq] 51 ∧ Below w.heap.size w W
theorem LI.abides (w : World) (b3 b4 : Nat) (va tm sr sq : Int) (T : List UInt8) {B : Nat} (hB : w.heap.size ≤ B) : OwnFrom B (LI w b3 b4 va tm sr sq T) := by
  rintro pre X Y row ⟨⟨v, h1, h2⟩, h3, h4⟩ hg hr
  have far : ∀ {b : Nat} {cs : Array Value} {T : TypeId} {fz : Nat × Nat}, X.heap[b]? = some (.cells cs T fz) → Y.heap[b]? = X.heap[b]? := fun {b cs T fz} h => hg.block b (Array.getElem?_eq_some_iff.1 h).1 (fun e => by
    obtain ⟨_, o, ho, hc⟩ := hr b e.symm
    rw [ho] at h; cases h; cases hc)
  refine ⟨⟨v, (far h1).trans h1, h2.at (fun g hgv => ?_)⟩, (far h3).trans h3, h4.grown hg h4.size (fun k e => Nat.le_trans hB (hr k e).1)⟩
  obtain ⟨c, fz, hgg⟩ := h2.kind g hgv
  exact far hgg
set_option maxHeartbeats 8000000 in
theorem lineText_any (a : Option Addr) (n cap : Nat) (zs : List SLab) (hreach : zs.length ≤ 100) (va tm sr sq : Int) (k0 : I64 va) (k1 : I64 tm) (k2 : I64 sr) (k3 : I64 sq) (w : World) (hT : Tab w) (hI : Labs w.heap.size w (.slice a n cap) zs) :
    Calls Tryz.prog 12 #[sampV (.slice a n cap) va tm sr sq] w fun e w' => e = .returned (.string ⟨(lineR zs va tm sr sq).toArray⟩) ∧ Below w.heap.size w w' := by
  obtain rfl : n = zs.length := hI.len
  have LT := Lib.hid (fun W (hb : Below w.heap.size w W) => ltext_any a zs.length cap zs hreach W (labs_on hI hb))
  have NO := Lib.hid (fun W => numbersOf_any (.slice a zs.length cap) va tm sr sq W)
  have hTl : (textL zs).length ≤ 60402 := by have := (runS_len zs).1; unfold textL; rw [List.length_append]; simp; omega
  have hnum := numAt_ok k0 k1 k2 k3
  clear k0 k1 k2 k3
  obtain ⟨T, hT1⟩ : ∃ T, textL zs = T := ⟨_, rfl⟩
  have hT2 := hT1
  unfold textL at hT2
  simp only [hT2] at LT
  unfold lineR
  rw [hT1] at hTl ⊢
  clear hT1 hT2 hI
  generalize Value.slice a zs.length cap = sl at LT NO ⊢
  refine (callsIn_wide (n := 9)).1 ?_
  refine callsIn_of_wp_marks Tryz.func12 rfl trivial ?_ rfl
  simp only [Tryz.ntmps12, List.size_toArray, List.length_cons, List.length_nil, Nat.reduceAdd, Nat.reduceSub, Array.replicate_succ, Array.replicate_zero, List.push_toArray, List.append_toArray, List.nil_append, List.cons_append]
  unfold sampV
  gi_wp2
  refine region_states (Φ := fun d a u => ∃ t3 t4 t6 t7 t8 t9 t10 t11, a = textAct w sl va tm sr sq t3 t4 t6 t7 t8 t9 t10 t11 ∧ TS w u sl va tm sr sq T d t3 t4 t6 t7 t8 t9 t10 t11) (by kernel_rfl) (by kernel_rfl) ?h0 ?step ?done
  case h0 =>
    refine ⟨undef, undef, undef, undef, undef, undef, undef, undef, rfl, ⟨⟨(below_cells _).drew, blk_new w _ _, fun q => (by cases q), fun q => (by cases q), fun q => (by cases q), fun q => (by cases q), fun q => (by cases q)⟩, fun q => (by cases q), fun q => (by cases q), fun q => (by cases q), fun q => (by cases q), fun q => (by cases q)⟩⟩
  case done =>
    rintro d a' u hd ⟨t3, t4, t6, t7, t8, t9, t10, t11, rfl, hS⟩
    obtain ⟨b3, rfl, g3, k3⟩ := hS.m.b3 (hd 6 (by decide))
    obtain ⟨b4, rfl, g4, k4⟩ := hS.m.b4 (hd 7 (by decide))
    have e8 : d 8 = true := hd 8 (by decide)
    have e9 : d 9 = true := hd 9 (by decide)
    rw [if_pos e8] at k3
    rw [if_pos e9] at k4
    obtain ⟨gT, cT, rfl, ow⟩ := hS.m.row (hd 3 (by decide))
    have hlp := hS.m.bel
    have h3lt : b3 < u.heap.size := (blk_at k3).lt
    have h4lt : b4 < u.heap.size := (blk_at k4).lt
    have hsz : w.heap.size ≤ u.heap.size := hlp.size
    clear hS e8 e9 hd LT NO
    unfold textAct
    gi_wp2
    have hseq := words_stops 5 8 b4 w.heap.size u h4lt
    refine rangeM 5 (F := Fence.wide) (n := 9) rfl (by omega) (gf := 25) (fst := #[.pointer (some ⟨b4, 0, none⟩)]) (lb := #[]) rfl trivial (enters_of Tryz.func25 (by kernel_rfl) rfl) (n₀ := w.heap.size) hseq hsz (Below.refl _ _) (fun _ => rfl)
      (LI w b3 b4 va tm sr sq T) (fun _ _ _ => False) (LI.abides w b3 b4 va tm sr sq T hsz) (fun _ _ _ _ _ hs _ _ => hs)
      ⟨⟨_, k3, ow⟩, k4, hlp⟩
      (fun x a' W => ∃ Bx, Blk W Bx #[.string ⟨(markL x).toArray⟩, .pointer (some ⟨b4, x.val, none⟩)] 61 ∧ a' = { tmps := #[sampV sl va tm sr sq, .pointer (some ⟨w.heap.size, 0, none⟩), .string ⟨#[]⟩, .pointer (some ⟨b3, 0, none⟩), .pointer (some ⟨b4, 0, none⟩), .pointer (some ⟨Bx, 0, none⟩), t6, t7, t8, .slice (some ⟨gT, 0, none⟩) T.length cT, t10, t11, .func (.func 25) #[.pointer (some ⟨b4, 0, none⟩)] #[], .agg #[.string ⟨(markL x).toArray⟩, .pointer (some ⟨b4, x.val, none⟩)], undef, undef, undef, undef, undef, undef, undef, undef, undef, undef, undef], defers := [] })
      (fun x a' => ?ax) ?assign ?body ?done ?stop
    case ax => exact fun s X Y row ⟨Bx, q2, q3⟩ hg hr => ⟨Bx, (blk_own (β := Unit) Bx _ _).from _ () X Y row q2 hg hr, q3⟩
    case assign =>
      rintro l pre x W K hi hK
      simp only [wordV]
      have hWs : w.heap.size ≤ W.heap.size := hi.2.2.size
      have hl2 := LI.abides w b3 b4 va tm sr sq T hsz pre W (W.alloc (.cells #[.string ⟨(markL x).toArray⟩, .pointer (some ⟨b4, x.val, none⟩)] 61)) none hi (World.grownBy_alloc _ _ _) (fun r e => by cases e)
      gi_wp2
      exact hK _ _ (KeepsT.alloc _ _ _ _) ((Below.refl _ W).alloc hWs _) hl2 ⟨W.heap.size, blk_new W _ _, rfl⟩
    case body =>
      rintro l pre x a' W hl ⟨r, hr⟩ ⟨⟨v, hv, ow'⟩, h4, hB⟩ ⟨Bx, bX, rfl⟩ hlen
      have hSN := lineRun_snoc va tm sr sq T pre x
      have hSl := lineRun_len hnum T pre
      have hnx := hnum x
      have hML := markL_len x
      have hMP := markL_pos x
      have hcn := num_cell h4 x
      have hlT : pre.length ≤ 4 := by omega
      generalize lineRun va tm sr sq T pre = S at *
      generalize markL x = M at *
      generalize numAt va tm sr sq x = N at *
      generalize x.val = kx at *
      have SN := Lib.hid hSN
      clear hSN
      have hWs : w.heap.size + 1 ≤ W.heap.size := by have := (blk_at hv).lt; omega
      obtain ⟨i0, hi, hz0, hz1, hz2⟩ := info_parts info_u8
      have hMs : (⟨M.toArray⟩ : ByteArray).size = M.length := by simp [ByteArray.size]
      obtain ⟨v1, w1, hr1, own1, gr1⟩ := run_append_strG (P := Tryz.prog) W.drew (w.heap.size + 1) 56 9 56 5 i0 Tryz.underlying56 Tryz.underlying9 hi hz0 hz1 hz2 v _ _ ow'.drew ⟨M.toArray⟩ (by rw [hMs]; unfold maxLen; omega) (by rw [hMs]; omega) hWs
      have ko1 := grownG_others ow'.drew gr1
      have kt1 := grownG_keepsT u.heap.size ow'.drew gr1
      have bl1 : Below (w.heap.size + 1) W.drew w1 := (Below.refl _ _).grown gr1 hWs (fun k hk => (ow'.drew.lt k hk).1)
      rw [hMs, strCells_mk, ← bcells_app'] at own1
      have hb1 : Below w.heap.size w w1 := (hB.drew).trans (bl1.mono (by omega))
      have hB2 : w.heap.size + 1 ≤ w1.heap.size := Nat.le_trans hWs bl1.size
      have hTB : TabB (w.heap.size + 1) w1 := fun w' hw' => hT.below (hb1.trans (hw'.mono (by omega)))
      have AI := Lib.hid (appInt_any (w.heap.size + 1) (S.length + M.length) N hnx.1 hnx.2 v1 _ w1 own1 hB2 (by omega) hTB)
      have HR := Lib.hid hr1
      have v1' := blk_oth (w := W.drew) hv ko1 (by decide)
      have v2' := blk_oth (w := W.drew) bX ko1 (by decide)
      have v4' := blk_oth (w := W.drew) h4 ko1 (by decide)
      have c1 := (blk_at v1').cell 0 _ rfl
      have c2 := (blk_at v2').cell 0 _ rfl
      have c3 := (blk_at v2').cell 1 _ rfl
      have c4 : w1.cell? ⟨b4, kx, none⟩ = some (.int .i64 N) := (World.cell?_of_block (a := ⟨b4, kx, none⟩) (show w1.heap[b4]? = W.heap[b4]? from v4'.trans (show W.heap[b4]? = _ from h4).symm)).trans hcn
      have e1 := (blk_at hv).cell 0 _ rfl
      have e2 := (blk_at bX).cell 0 _ rfl
      have e3 := (blk_at bX).cell 1 _ rfl
      gi_wp2
      refine region_anyM (S := fun u' => u'.cell? ⟨b3, 0, none⟩ = some v ∧ u'.cell? ⟨Bx, 0, none⟩ = some (.string ⟨M.toArray⟩) ∧ u'.cell? ⟨Bx, 1, none⟩ = some (.pointer (some ⟨b4, kx, none⟩)) ∧ u'.cell? ⟨b4, kx, none⟩ = some (.int .i64 N)) 9 (by kernel_rfl) (fun hS => ?_) ⟨e1, e2, e3, hcn⟩
      refine' anyM_take (i := 0) (oi := ?oi0) (v := ?v0) [0, 9] (by kernel_rfl) ?hi0 (by kernel_rfl) (by kernel_rfl) (by kernel_rfl) (by kernel_rfl) (fun _ _ _ h => h) ?hy0 ?hab0 hS ?rest0
      case hi0 =>
        simp only [List.getElem?_toArray, List.getElem?_cons_succ, List.getElem?_cons_zero]
        exact rfl
      case hy0 =>
        refine Or.inl ⟨by rfl, ?_⟩
        intro w hSw
        (try dsimp only at hSw)
        go_simp
        (try with_reducible rfl)
      case hab0 => exact fun _ => rfl
      (try simp only [Act.put, List.setIfInBounds_toArray, List.set_cons_zero, List.set_cons_succ])
      refine' anyM_take (i := 1) (oi := ?oi1) (v := ?v1) [1, 9] (by kernel_rfl) ?hi1 (by kernel_rfl) (by kernel_rfl) (by kernel_rfl) (by kernel_rfl) (fun _ _ _ h => h) ?hy1 ?hab1 hS ?rest1
      case hi1 =>
        simp only [List.getElem?_toArray, List.getElem?_cons_succ, List.getElem?_cons_zero]
        exact rfl
      case hy1 =>
        refine Or.inl ⟨by rfl, ?_⟩
        intro w hSw
        (try dsimp only at hSw)
        go_simp
        (try with_reducible rfl)
      case hab1 => exact fun _ => rfl
      (try simp only [Act.put, List.setIfInBounds_toArray, List.set_cons_zero, List.set_cons_succ])
      refine' anyM_take (i := 2) (oi := ?oi2) (v := ?v2) [2, 9] (by kernel_rfl) ?hi2 (by kernel_rfl) (by kernel_rfl) (by kernel_rfl) (by kernel_rfl) (fun _ _ _ h => h) ?hy2 ?hab2 hS ?rest2
      case hi2 =>
        simp only [List.getElem?_toArray, List.getElem?_cons_succ, List.getElem?_cons_zero]
        exact rfl
      case hy2 =>
        refine Or.inl ⟨by rfl, ?_⟩
        intro w hSw
        (try dsimp only at hSw)
        go_simp
        (try with_reducible rfl)
      case hab2 => exact fun _ => rfl
      (try simp only [Act.put, List.setIfInBounds_toArray, List.set_cons_zero, List.set_cons_succ])
      refine' anyM_take (i := 4) (oi := ?oi4) (v := ?v4) [4, 9] (by kernel_rfl) ?hi4 (by kernel_rfl) (by kernel_rfl) (by kernel_rfl) (by kernel_rfl) (fun _ _ _ h => h) ?hy4 ?hab4 hS ?rest4
      case hi4 =>
        simp only [List.getElem?_toArray, List.getElem?_cons_succ, List.getElem?_cons_zero]
        exact rfl
      case hy4 =>
        refine Or.inl ⟨by rfl, ?_⟩
        intro w hSw
        (try dsimp only at hSw)
        go_simp
        (try with_reducible rfl)
      case hab4 => exact fun _ => rfl
      (try simp only [Act.put, List.setIfInBounds_toArray, List.set_cons_zero, List.set_cons_succ])
      refine' anyM_take (i := 5) (oi := ?oi5) (v := ?v5) [5, 9] (by kernel_rfl) ?hi5 (by kernel_rfl) (by kernel_rfl) (by kernel_rfl) (by kernel_rfl) (fun _ _ _ h => h) ?hy5 ?hab5 hS ?rest5
      case hi5 =>
        simp only [List.getElem?_toArray, List.getElem?_cons_succ, List.getElem?_cons_zero]
        exact rfl
      case hy5 =>
        refine Or.inl ⟨by rfl, ?_⟩
        intro w hSw
        (try dsimp only at hSw)
        go_simp
        (try with_reducible rfl)
      case hab5 => exact fun _ => rfl
      (try simp only [Act.put, List.setIfInBounds_toArray, List.set_cons_zero, List.set_cons_succ])
      refine' anyM_take (i := 6) (oi := ?oi6) (v := ?v6) [6, 9] (by kernel_rfl) ?hi6 (by kernel_rfl) (by kernel_rfl) (by kernel_rfl) (by kernel_rfl) (fun _ _ _ h => h) ?hy6 ?hab6 hS ?rest6
      case hi6 =>
        simp only [List.getElem?_toArray, List.getElem?_cons_succ, List.getElem?_cons_zero]
        exact rfl
      case hy6 =>
        refine Or.inl ⟨by rfl, ?_⟩
        intro w hSw
        (try dsimp only at hSw)
        go_simp
        (try with_reducible rfl)
      case hab6 => exact fun _ => rfl
      (try simp only [Act.put, List.setIfInBounds_toArray, List.set_cons_zero, List.set_cons_succ])
      refine' anyM_take (i := 7) (oi := ?oi7) (v := ?v7) [7, 9] (by kernel_rfl) ?hi7 (by kernel_rfl) (by kernel_rfl) (by kernel_rfl) (by kernel_rfl) (fun _ _ _ h => h) ?hy7 ?hab7 hS ?rest7
      case hi7 =>
        simp only [List.getElem?_toArray, List.getElem?_cons_succ, List.getElem?_cons_zero]
        exact rfl
      case hy7 =>
        refine Or.inl ⟨by rfl, ?_⟩
        intro w hSw
        (try dsimp only at hSw)
        go_simp
        (try with_reducible rfl)
      case hab7 => exact fun _ => rfl
      (try simp only [Act.put, List.setIfInBounds_toArray, List.set_cons_zero, List.set_cons_succ])
      refine' anyM_only (i := 3) (o := ?oo3) (by kernel_rfl) (by decide) ?ho3 ?hw3 (fun K hK => ?st3)
      case ho3 =>
        simp only [List.getElem?_toArray, List.getElem?_cons_succ, List.getElem?_cons_zero]
        exact rfl
      case hw3 => rfl
      refine oper_append_string (.tmp 14) (.tmp 16) 56 9 rfl rfl rfl HR.out ?_
      refine hK _ _ ⟨c1, c2, c3, c4⟩ ?_
      clear hK K
      (try simp only [Act.put, List.setIfInBounds_toArray, List.set_cons_zero, List.set_cons_succ])
      refine' anyM_only (i := 8) (o := ?oo8) (by kernel_rfl) (by decide) ?ho8 ?hw8 (fun K hK => ?st8)
      case ho8 =>
        simp only [List.getElem?_toArray, List.getElem?_cons_succ, List.getElem?_cons_zero]
        exact rfl
      case hw8 => rfl
      go_simp
      refine ⟨trivial, ?_⟩
      gi_at_call 26
      refine (CallsIn.inRound l (callsIn_wide.2 AI.out)).mono ?_
      rintro e w2 ⟨v2, rfl, own2, bl2, ko2⟩
      obtain ⟨g2, cap2, rfl⟩ := ownG_some own2 (by omega)
      have u1 := blk_oth v1' ko2 (by decide)
      have u2 := blk_oth v2' ko2 (by decide)
      have u4 := blk_oth v4' ko2 (by decide)
      have q1 := (blk_at u1).cell 0 _ rfl
      have q2 := (blk_at u2).cell 0 _ rfl
      have q3 := (blk_at u2).cell 1 _ rfl
      have q4 : w2.cell? ⟨b4, kx, none⟩ = some (.int .i64 N) := (World.cell?_of_block (a := ⟨b4, kx, none⟩) (show w2.heap[b4]? = W.heap[b4]? from (show w2.heap[b4]? = _ from u4).trans (show W.heap[b4]? = _ from h4).symm)).trans hcn
      have q5 := (blk_at u1).free 0 _ rfl
      have q6 := (blk_at u1).lt
      go_simp
      refine hK _ _ ⟨q1, q2, q3, q4⟩ ?_
      clear hK K
      (try simp only [Act.put, List.setIfInBounds_toArray, List.set_cons_zero, List.set_cons_succ])
      refine' anyM_last (o := ?oo9) (by kernel_rfl) ?ho9 ?hw9 (fun K hK => ?st9)
      case ho9 =>
        simp only [List.getElem?_toArray, List.getElem?_cons_succ, List.getElem?_cons_zero]
        exact rfl
      case hw9 => rfl
      go_simp
      refine hK _ _ ?_
      clear hK K
      refine anyIn_done (by kernel_rfl) ?_ _
      gi_wp2
      have kt0 : KeepsT 5 u.heap.size W.drew w2 := kt1.trans ⟨bl2.size, fun k o _ hk ho => ko2 k o hk (by simp) ho⟩
      have kt : KeepsT 5 u.heap.size W w2 := ⟨kt0.size, kt0.same⟩
      have hbW : Below w.heap.size W w2 := ((Below.refl w.heap.size W).drew.trans (bl1.mono (Nat.le_succ _))).trans (bl2.mono (Nat.le_succ _))
      refine ⟨kt.trans (KeepsT.setCell _ h3lt), hbW.setCell (by show w.heap.size ≤ b3; omega) _, ?_⟩
      unfold LI
      rw [SN.out]
      have hn2 : b4 ≠ b3 := blk_ne u4 u1 (by decide)
      rw [show (S ++ M ++ Lib.itoa N).length = S.length + M.length + (Lib.itoa N).length by rw [List.length_append, List.length_append], bcells_app']
      exact ⟨⟨_, by simpa using blk_set (j := 0) u1 _, own2.far (own2.not_row u1 (by decide)) _⟩, blk_far u4 hn2 _, (hB.trans hbW).setCell (by show w.heap.size ≤ b3; omega) _⟩
    case done =>
      rintro D ys W hD rfl ⟨⟨v, hv, ow'⟩, h4, hB⟩ hK
      have c3 := (blk_at hv).cell 0 _ rfl
      obtain ⟨S, hS⟩ : ∃ S, lineRun va tm sr sq T [0, 1, 2, 3] = S := ⟨_, rfl⟩
      rw [hS] at ow'
      have HS := Lib.hid hS
      clear hS
      have hC := fun ty => str_of_G (P := Tryz.prog) (src := 56) (dst := ty) ow' Tryz.underlying56 Tryz.underlying5
      have hC := hC 9 Tryz.underlying9
      have HB := Lib.hid hB
      have HK := Lib.hid hK
      clear hB hK ow' h4
      gi_wp2
      refine ⟨by simp, .inl ⟨_, _, rfl, run_takeDeferred HK.out, ?_⟩⟩
      exact ⟨_, results_tmp rfl _ _ _, by rw [HS.out]; rfl, HB.out.trans (belowK_b (w := w) (Nat.le_refl _) W D _ _ (by omega) HK.out rfl rfl)⟩
    case stop => exact fun _ _ _ _ _ _ h => h.elim
  case step =>
    rintro d i o a' u ho hd he ⟨t3, t4, t6, t7, t8, t9, t10, t11, rfl, hS⟩
    have hi : i < 10 := (Array.getElem?_eq_some_iff.1 ho).1
    unfold textAct
    match i, hi with
    | 0, _ =>
      simp only [List.getElem?_toArray, List.getElem?_cons_succ, List.getElem?_cons_zero, Option.some.injEq] at ho
      subst ho
      refine wpOp_go rfl rfl (fun K hK => ?_)
      go_simp
      exact hK _ _ ⟨t3, t4, _, t7, t8, t9, t10, t11, rfl, ⟨hS.m.mark 0 (by decide) (by decide) (by decide) (by decide) (by decide), fun _ => rfl, fun q => hS.f1 (ns 0 d q (by decide)), fun q => hS.f2 (ns 0 d q (by decide)), fun q => hS.f4 (ns 0 d q (by decide)), fun q => hS.f5 (ns 0 d q (by decide))⟩⟩
    | 1, _ =>
      simp only [List.getElem?_toArray, List.getElem?_cons_succ, List.getElem?_cons_zero, Option.some.injEq] at ho
      subst ho
      obtain rfl := hS.f0 (he ⟨0, .data⟩ (by simp) rfl)
      have c0 := (blk_at hS.m.box).cell 0 _ rfl
      refine wpOp_go rfl rfl (fun K hK => ?_)
      go_simp
      exact hK _ _ ⟨t3, t4, _, _, t8, t9, t10, t11, rfl, ⟨hS.m.mark 1 (by decide) (by decide) (by decide) (by decide) (by decide), fun q => hS.f0 (ns 1 d q (by decide)), fun _ => rfl, fun q => hS.f2 (ns 1 d q (by decide)), fun q => hS.f4 (ns 1 d q (by decide)), fun q => hS.f5 (ns 1 d q (by decide))⟩⟩
    | 2, _ =>
      simp only [List.getElem?_toArray, List.getElem?_cons_succ, List.getElem?_cons_zero, Option.some.injEq] at ho
      subst ho
      obtain rfl := hS.f1 (he ⟨1, .data⟩ (by simp) rfl)
      refine wpOp_go rfl rfl (fun K hK => ?_)
      go_simp
      refine ⟨trivial, ?_⟩
      gi_at_call 24
      refine (callsIn_wide.2 (LT.out _ hS.m.bel)).mono ?_
      rintro e u' ⟨rfl, hb⟩
      go_simp
      exact hK _ _ ⟨t3, t4, t6, _, _, t9, t10, t11, rfl, ⟨(hS.m.on hb).mark 2 (by decide) (by decide) (by decide) (by decide) (by decide), fun q => hS.f0 (ns 2 d q (by decide)), fun q => hS.f1 (ns 2 d q (by decide)), fun _ => rfl, fun q => hS.f4 (ns 2 d q (by decide)), fun q => hS.f5 (ns 2 d q (by decide))⟩⟩
    | 4, _ =>
      simp only [List.getElem?_toArray, List.getElem?_cons_succ, List.getElem?_cons_zero, Option.some.injEq] at ho
      subst ho
      have B := blk_at hS.m.box
      have c0 := B.cell 0 _ rfl
      have c1 := B.cell 1 _ rfl
      have c2 := B.cell 2 _ rfl
      have c3 := B.cell 3 _ rfl
      have c4 := B.cell 4 _ rfl
      have nl := B.lt
      refine wpOp_go rfl rfl (fun K hK => ?_)
      go_simp
      exact hK _ _ ⟨t3, t4, t6, t7, t8, t9, _, t11, rfl, ⟨hS.m.mark 4 (by decide) (by decide) (by decide) (by decide) (by decide), fun q => hS.f0 (ns 4 d q (by decide)), fun q => hS.f1 (ns 4 d q (by decide)), fun q => hS.f2 (ns 4 d q (by decide)), fun _ => rfl, fun q => hS.f5 (ns 4 d q (by decide))⟩⟩
    | 5, _ =>
      simp only [List.getElem?_toArray, List.getElem?_cons_succ, List.getElem?_cons_zero, Option.some.injEq] at ho
      subst ho
      obtain rfl := hS.f4 (he ⟨4, .data⟩ (by simp) rfl)
      refine wpOp_go rfl rfl (fun K hK => ?_)
      go_simp
      refine ⟨trivial, ?_⟩
      gi_at_call 20
      refine (callsIn_wide.2 (NO.out _)).mono ?_
      rintro e u' ⟨rfl, hb⟩
      go_simp
      exact hK _ _ ⟨t3, t4, t6, t7, t8, t9, _, _, rfl, ⟨(hS.m.on hb).mark 5 (by decide) (by decide) (by decide) (by decide) (by decide), fun q => hS.f0 (ns 5 d q (by decide)), fun q => hS.f1 (ns 5 d q (by decide)), fun q => hS.f2 (ns 5 d q (by decide)), fun q => hS.f4 (ns 5 d q (by decide)), fun _ => rfl⟩⟩
    | 3, _ =>
      simp only [List.getElem?_toArray, List.getElem?_cons_succ, List.getElem?_cons_zero, Option.some.injEq] at ho
      subst ho
      obtain rfl := hS.f2 (he ⟨2, .data⟩ (by simp) rfl)
      have hnd : d 8 = false := by
        cases h8 : d 8 with
        | false => rfl
        | true => exact absurd (hS.m.e8 h8).2 (by rw [hd]; decide)
      refine wpOp_go rfl rfl (fun K hK => ?_)
      refine oper_conv 9 56 (.tmp 8) rfl rfl (run_bytes_of_string u 9 56 5 ⟨T.toArray⟩ Tryz.underlying9 Tryz.underlying56 Tryz.underlying5) ?_
      have hsz : (⟨T.toArray⟩ : ByteArray).size = T.length := by simp [ByteArray.size]
      have hge := grownCap_ge u T.length 0 5
      have hcm := grownCap_le_maxLen u T.length 0 5 (by unfold maxLen; omega)
      have hw1 : w.heap.size + 1 ≤ u.heap.size := (blk_at hS.m.box).lt
      have hO := OwnG.made u.drew (w.heap.size + 1) 5 ⟨T.toArray⟩ (grownCap u T.length 0 5) hw1 (by rw [hsz]; exact hge) hcm
      rw [hsz] at hO ⊢
      refine hK _ _ ⟨t3, t4, t6, t7, _, _, t10, t11, rfl, ⟨⟨(hS.m.on ((Below.refl _ u).drew.alloc (Nat.le_refl _) _)).bel, (hS.m.on ((Below.refl _ u).drew.alloc (Nat.le_refl _) _)).box, fun _ => ⟨_, _, rfl, by rw [strCells_mk] at hO; exact hO⟩, fun q => ?_, fun q => ?_, fun q => ?_, fun q => ?_⟩, fun q => hS.f0 (ns 3 d q (by decide)), fun q => hS.f1 (ns 3 d q (by decide)), fun q => hS.f2 (ns 3 d q (by decide)), fun q => hS.f4 (ns 3 d q (by decide)), fun q => hS.f5 (ns 3 d q (by decide))⟩⟩
      · obtain ⟨b, e, h1, h2⟩ := (hS.m.on ((Below.refl _ u).drew.alloc (Nat.le_refl _) _)).b3 (ns 3 d q (by decide))
        refine ⟨b, e, h1, ?_⟩
        rw [hnd] at h2
        simpa [hnd] using h2
      · simpa using (hS.m.on ((Below.refl _ u).drew.alloc (Nat.le_refl _) _)).b4 (ns 3 d q (by decide))
      · exact absurd (ns 3 d q (by decide)) (by rw [hnd]; decide)
      · exact by simpa using hS.m.e9 (ns 3 d q (by decide))
    | 6, _ =>
      simp only [List.getElem?_toArray, List.getElem?_cons_succ, List.getElem?_cons_zero, Option.some.injEq] at ho
      subst ho
      have hnd : d 8 = false := by
        cases h8 : d 8 with
        | false => rfl
        | true => exact absurd (hS.m.e8 h8).1 (by rw [hd]; decide)
      have hlt := (blk_at hS.m.box).lt
      refine wpOp_go rfl rfl (fun K hK => ?_)
      go_simp
      refine hK _ _ ⟨_, t4, t6, t7, t8, t9, t10, t11, rfl, ⟨⟨(hS.m.on (below_cells _)).bel, (hS.m.on (below_cells _)).box, fun q => (hS.m.on (below_cells _)).row (ns 6 d q (by decide)), fun _ => ⟨_, rfl, hlt, ?_⟩, fun q => ?_, fun q => ?_, fun q => ?_⟩, fun q => hS.f0 (ns 6 d q (by decide)), fun q => hS.f1 (ns 6 d q (by decide)), fun q => hS.f2 (ns 6 d q (by decide)), fun q => hS.f4 (ns 6 d q (by decide)), fun q => hS.f5 (ns 6 d q (by decide))⟩⟩
      · simpa [hnd] using blk_new u #[.slice none 0 0] 56
      · simpa using (hS.m.on (below_cells _)).b4 (ns 6 d q (by decide))
      · exact absurd (ns 6 d q (by decide)) (by rw [hnd]; decide)
      · exact by simpa using hS.m.e9 (ns 6 d q (by decide))
    | 7, _ =>
      simp only [List.getElem?_toArray, List.getElem?_cons_succ, List.getElem?_cons_zero, Option.some.injEq] at ho
      subst ho
      have hnd : d 9 = false := by
        cases h9 : d 9 with
        | false => rfl
        | true => exact absurd (hS.m.e9 h9) (by rw [hd]; decide)
      have hlt := (blk_at hS.m.box).lt
      refine wpOp_go rfl rfl (fun K hK => ?_)
      go_simp
      refine hK _ _ ⟨t3, _, t6, t7, t8, t9, t10, t11, rfl, ⟨⟨(hS.m.on (below_cells _)).bel, (hS.m.on (below_cells _)).box, fun q => (hS.m.on (below_cells _)).row (ns 7 d q (by decide)), fun q => ?_, fun _ => ⟨_, rfl, hlt, ?_⟩, fun q => ?_, fun q => ?_⟩, fun q => hS.f0 (ns 7 d q (by decide)), fun q => hS.f1 (ns 7 d q (by decide)), fun q => hS.f2 (ns 7 d q (by decide)), fun q => hS.f4 (ns 7 d q (by decide)), fun q => hS.f5 (ns 7 d q (by decide))⟩⟩
      · simpa using (hS.m.on (below_cells _)).b3 (ns 7 d q (by decide))
      · simpa [hnd] using blk_new u #[.int .i64 0, .int .i64 0, .int .i64 0, .int .i64 0] 51
      · exact by simpa using hS.m.e8 (ns 7 d q (by decide))
      · exact absurd (ns 7 d q (by decide)) (by rw [hnd]; decide)
    | 8, _ =>
      simp only [List.getElem?_toArray, List.getElem?_cons_succ, List.getElem?_cons_zero, Option.some.injEq] at ho
      subst ho
      obtain ⟨g, cp, rfl, hrow⟩ := hS.m.row (he ⟨3, .data⟩ (by simp) rfl)
      obtain ⟨b, rfl, hb, k3⟩ := hS.m.b3 (he ⟨6, .data⟩ (by simp) rfl)
      rw [hd] at k3
      have B := blk_at k3
      have c0 := B.cell 0 _ rfl
      have z0 := B.free 0 _ rfl
      have nl := B.lt
      refine wpOp_go rfl rfl (fun K hK => ?_)
      go_simp
      have hne := hrow.not_row k3 (by decide)
      refine hK _ _ ⟨_, t4, t6, t7, t8, _, t10, t11, rfl, ⟨⟨hS.m.bel.setCell (by simp; omega) _, blk_far hS.m.box (by omega) _, fun _ => ⟨_, _, rfl, hrow.far hne _⟩, fun _ => ⟨_, rfl, hb, ?_⟩, fun q => ?_, fun _ => ⟨?_, ?_⟩, fun q => ?_⟩, fun q => hS.f0 (ns 8 d q (by decide)), fun q => hS.f1 (ns 8 d q (by decide)), fun q => hS.f2 (ns 8 d q (by decide)), fun q => hS.f4 (ns 8 d q (by decide)), fun q => hS.f5 (ns 8 d q (by decide))⟩⟩
      · simpa using blk_set (j := 0) k3 (.slice (some ⟨g, 0, none⟩) T.length cp)
      · obtain ⟨b4, e, h1, h2⟩ := hS.m.b4 (ns 8 d q (by decide)); refine ⟨b4, e, h1, ?_⟩; have hn : b4 ≠ b := blk_ne h2 k3 (by decide); simpa using blk_far h2 hn _
      · simpa using (he ⟨6, .data⟩ (by simp) rfl)
      · simpa using (he ⟨3, .data⟩ (by simp) rfl)
      · exact by simpa using hS.m.e9 (ns 8 d q (by decide))
    | 9, _ =>
      simp only [List.getElem?_toArray, List.getElem?_cons_succ, List.getElem?_cons_zero, Option.some.injEq] at ho
      subst ho
      obtain rfl := hS.f5 (he ⟨5, .data⟩ (by simp) rfl)
      obtain ⟨b, rfl, hb, k4⟩ := hS.m.b4 (he ⟨7, .data⟩ (by simp) rfl)
      rw [hd, if_neg (by decide)] at k4
      have B := blk_at k4
      have c0 := B.cell 0 _ rfl
      have c1 := B.cell 1 _ rfl
      have c2 := B.cell 2 _ rfl
      have c3 := B.cell 3 _ rfl
      have z0 := B.free 0 _ rfl
      have z1 := B.free 1 _ rfl
      have z2 := B.free 2 _ rfl
      have z3 := B.free 3 _ rfl
      have nl := B.lt
      unfold numV
      refine wpOp_go rfl rfl (fun K hK => ?_)
      go_simp
      refine hK _ _ ⟨t3, _, t6, t7, t8, t9, t10, _, rfl, ⟨⟨(((hS.m.bel.setCell (by simp; omega) _).setCell (by simp; omega) _).setCell (by simp; omega) _).setCell (by simp; omega) _, blk_far (blk_far (blk_far (blk_far hS.m.box (by omega) _) (by omega) _) (by omega) _) (by omega) _, fun _ => ?_, fun _ => ?_, fun _ => ⟨_, rfl, hb, ?_⟩, fun _ => ⟨?_, ?_⟩, fun _ => ?_⟩, fun q => hS.f0 (ns 9 d q (by decide)), fun q => hS.f1 (ns 9 d q (by decide)), fun q => hS.f2 (ns 9 d q (by decide)), fun q => hS.f4 (ns 9 d q (by decide)), fun _ => rfl⟩⟩
      · obtain ⟨g, cp, rfl, hrow⟩ := hS.m.row (he ⟨3, .phase⟩ (by simp) rfl)
        have hne := hrow.not_row k4 (by decide)
        exact ⟨g, cp, rfl, (((hrow.far hne _).far hne _).far hne _).far hne _⟩
      · obtain ⟨b3, e, h1, h2⟩ := hS.m.b3 (he ⟨6, .phase⟩ (by simp) rfl)
        have hn : b3 ≠ b := blk_ne h2 k4 (by decide)
        refine ⟨b3, e, h1, ?_⟩
        simpa using blk_far (j := 3) (blk_far (j := 2) (blk_far (j := 1) (blk_far (j := 0) h2 hn (.int .i64 va)) hn (.int .i64 tm)) hn (.int .i64 sr)) hn (.int .i64 sq)
      · simpa using blk_set (j := 3) (blk_set (j := 2) (blk_set (j := 1) (blk_set (j := 0) k4 (.int .i64 va)) (.int .i64 tm)) (.int .i64 sr)) (.int .i64 sq)
      · simpa using (he ⟨6, .phase⟩ (by simp) rfl)
      · simpa using (he ⟨3, .phase⟩ (by simp) rfl)
      · simpa using (he ⟨7, .phase⟩ (by simp) rfl)
end Go.Proofs.YtgldieboflmnhaaGreatDoor
