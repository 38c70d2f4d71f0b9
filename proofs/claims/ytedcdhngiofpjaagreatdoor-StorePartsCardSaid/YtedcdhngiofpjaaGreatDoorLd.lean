/- Labels and samples of the program's: what earlier stages walked. -/
import Derived.Test.YtedcdhngiofpjaaGreatDoorLb
import Derived.Test.YtedcdhngiofpjaaGreatDoorHeldIn
import Derived.Test.YtedcdhngiofpjaaGreatDoorShelf
import Derived.Shelf.Strings.SlTrimAscii
import Derived.Laws.RangeAny
import Derived.Laws.RangeString
import Derived.RangeFuncNested
import Derived.RangeFuncBound
import Derived.RangeFuncCalls
import Derived.RangeFuncLeaves
import Derived.RangeFuncBox
import Derived.Test.YtedcdhngiofpjaaGreatDoorRangeJ
import Derived.Shelf.Abstract
import Derived.OwnWalkIn
import Derived.TacticsInMore
import Derived.LoopNIn
import Derived.LoopIn
import Derived.Lib.AppendStr
import Derived.Laws.IdiomStrings
import Derived.Lib.OthersKept
import Derived.Lib.UnsafeStr
import Derived.Laws.AppendOwn
import Derived.Maps.AppendAt
import Derived.PinnedBridge
namespace Go.Proofs.YtedcdhngiofpjaaGreatDoor
open Go Go.Proofs Go.RowKit Go.Shelf Go.Lib
set_option maxRecDepth 100000
theorem oper_append_string {F : Fence} {n : Nat} {P : Program} {Q : Exit → Act → World → Prop} {o : Oper} {a : Act} {w : World} {K : Act → World → Prop} (s x : Operand) (t u : TypeId)
    (ho : o.op = .call { callee := .builtin .append, args := #[s, x], argTypes := #[t, u] }) {v v' : Value} {st : ByteArray} {w' : World} (hs : a.eval s = v) (hx : a.eval x = .string st)
    (hr : (Builtin.append_ #[t, u] o.type #[v, .string st]).run P w = .ok v' w') (hK : K (a.put o.dst v') w') : o.wpIn F n P a w K Q := by
  unfold Oper.wpIn
  refine ⟨?_, ?_⟩
  · simp [Oper.about, ho, resolve, Target.leads, Sem.run_pure]
  · rw [Oper.semAt_plain F _ _ (by rw [ho]; intro c hc'; cases hc')]
    simp [execOp, ho, resolve, invoke, builtin, hs, hx, hr, Result.andThen]
    exact hK
theorem own_some {w : World} {base e n : Nat} {v : Value} {xs : List Value} (h : w.ownsRow base e 1 v n xs) (hn : 0 < n) : ∃ g cap, v = .slice (some ⟨g, 0, none⟩) n cap := by
  rcases h.2 with ⟨_, h⟩ | ⟨g, cap, cur, hv, _⟩
  · omega
  · exact ⟨g, cap, hv⟩
theorem heap_grow {w1 w2 : World} {b n Bx : Nat} {tB T : TypeId} {v1 : Value} {xs : List Value} {cs : Array Value} (own1 : w1.ownsRow b tB 1 v1 n xs) (g : w1.grownBy w2 v1.ownBlock) (hT : T ≠ tB) (bx : w1.heap[Bx]? = some (.cells cs T (0, 0))) : w2.heap[Bx]? = some (.cells cs T (0, 0)) := by
  refine (g.block Bx (Array.getElem?_eq_some_iff.1 bx).1 (fun e' => ?_)).trans bx
  rcases own1.2 with ⟨rfl, _⟩ | ⟨gg, cap, cur, rfl, _, hgb, _⟩
  · simp [Value.ownBlock] at e'
  · obtain rfl : gg = Bx := by simpa [Value.ownBlock, eq_comm] using e'
    rw [hgb] at bx
    cases bx
    exact hT rfl
theorem strCells_mk (l : List UInt8) : strCells ⟨l.toArray⟩ = byteCells l := by
  unfold strCells byteCells
  simp
theorem str_of_row {P : Program} {w : World} {base n : Nat} {src dst e : TypeId} {v : Value} {l : List UInt8} (h : w.ownsRow base e 1 v n (byteCells l)) (hs : P.underlying src = some (.slice e)) (he : P.underlying e = some (.int .u8)) (hd : P.underlying dst = some .string) : (convert src dst v).run P w = .ok (.string ⟨l.toArray⟩) w := by
  have hl : n = l.length := by have := h.1; simp [byteCells] at this; omega
  subst hl
  have hc := fun g => World.ownsRow.cells h (g := g)
  rcases h.2 with ⟨rfl, hn⟩ | ⟨g, cap, cur, rfl, _⟩
  · obtain rfl : l = [] := List.eq_nil_of_length_eq_zero hn
    rw [run_convert_bytes_string w src dst e none 0 0 hs he hd]; rfl
  · exact run_convert_bytes_back w src dst e ⟨g, 0, none⟩ cap l hs he hd (fun j hj => hc g rfl j _ (by simp [byteCells]; exact ⟨_, List.getElem?_eq_getElem hj, rfl⟩))
def lettersL : List UInt8 := [97, 98, 99, 100, 101, 102, 103, 104, 105, 106, 107, 108, 109, 110, 111, 112, 113, 114, 115, 116, 117, 118, 119, 120, 121, 122, 95]
def wordL : List UInt8 := lettersL ++ [48, 49, 50, 51, 52, 53, 54, 55, 56, 57]
theorem let_iff (c : UInt8) : lettersL.contains c = isLet c := by
  have h : ∀ n : Fin 256, lettersL.contains (UInt8.ofNat n.val) = isLet (UInt8.ofNat n.val) := by decide +kernel
  have := h ⟨c.toNat, c.toNat_lt⟩
  rwa [UInt8.ofNat_toNat] at this
theorem word_iff (c : UInt8) : wordL.contains c = isWord c := by
  have h : ∀ n : Fin 256, wordL.contains (UInt8.ofNat n.val) = isWord (UInt8.ofNat n.val) := by decide +kernel
  have := h ⟨c.toNat, c.toNat_lt⟩
  rwa [UInt8.ofNat_toNat] at this
theorem dw_nil (p : UInt8 → Bool) (l : List UInt8) : l.dropWhile p = [] ↔ l.all p = true := by
  induction l with
  | nil => simp
  | cons a t ih =>
    rw [List.dropWhile_cons, List.all_cons]
    by_cases h : p a = true
    · rw [if_pos h, ih, h, Bool.true_and]
    · rw [if_neg h]
      simp only [Bool.not_eq_true] at h
      rw [h]
      simp
theorem trim_nil (l cs : List UInt8) : Lib.trimS l cs = [] ↔ l.all (cs.contains ·) = true := by
  unfold Lib.trimS Lib.trimLeftS Lib.trimRightS
  rw [dw_nil]
  constructor
  · intro h
    by_cases h0 : l.reverse.dropWhile (cs.contains ·) = []
    · rw [dw_nil] at h0
      simpa using h0
    · exfalso
      obtain ⟨a, t, e⟩ : ∃ a t, l.reverse.dropWhile (cs.contains ·) = a :: t := by
        cases h1 : l.reverse.dropWhile (cs.contains ·) with
        | nil => exact absurd h1 h0
        | cons a t => exact ⟨a, t, rfl⟩
      have hn : cs.contains a = false := by
        have := List.head_dropWhile_not (p := (cs.contains ·)) (l := l.reverse) h0
        simp only [e, List.head_cons] at this
        simpa using this
      rw [e, List.all_eq_true] at h
      have := h a (by simp)
      rw [hn] at this
      cases this
  · intro h
    rw [List.all_eq_true] at h ⊢
    intro x hx
    have hx1 := (List.dropWhile_sublist (p := (cs.contains ·)) (l := l.reverse)).subset (List.mem_reverse.1 hx)
    exact h x (List.mem_reverse.1 hx1)
theorem all_let (l : List UInt8) : l.all (lettersL.contains ·) = l.all isLet := by congr 1; funext c; exact let_iff c
theorem all_word (l : List UInt8) : l.all (wordL.contains ·) = l.all isWord := by congr 1; funext c; exact word_iff c
theorem ascii_of_all {l : List UInt8} (h : l.all (fun b => decide (b.toNat < 128)) = true) (j : Nat) (b : UInt8) (hj : l[j]? = some b) : b.toNat < 128 := by
  have := List.all_eq_true.1 h b (List.mem_of_getElem? hj)
  simpa using this
theorem trimL (s : ByteArray) (w : World) (hs : s.size ≤ 9223372036854775807) :
    Calls Tryz.prog 148 #[.string s, .string ⟨#[97, 98, 99, 100, 101, 102, 103, 104, 105, 106, 107, 108, 109, 110, 111, 112, 113, 114, 115, 116, 117, 118, 119, 120, 121, 122, 95]⟩] w fun e w' => e = .returned (.string ⟨(Lib.trimS s.data.toList lettersL).toArray⟩) ∧ Below w.heap.size w w' :=
  Any.strings_Trim_laid Tryz.lays160 (by kernel_rfl) s ⟨#[97, 98, 99, 100, 101, 102, 103, 104, 105, 106, 107, 108, 109, 110, 111, 112, 113, 114, 115, 116, 117, 118, 119, 120, 121, 122, 95]⟩ w hs (by decide) (ascii_of_all (by decide))
theorem trimW (s : ByteArray) (w : World) (hs : s.size ≤ 9223372036854775807) :
    Calls Tryz.prog 148 #[.string s, .string ⟨#[97, 98, 99, 100, 101, 102, 103, 104, 105, 106, 107, 108, 109, 110, 111, 112, 113, 114, 115, 116, 117, 118, 119, 120, 121, 122, 95, 48, 49, 50, 51, 52, 53, 54, 55, 56, 57]⟩] w fun e w' => e = .returned (.string ⟨(Lib.trimS s.data.toList wordL).toArray⟩) ∧ Below w.heap.size w w' :=
  Any.strings_Trim_laid Tryz.lays160 (by kernel_rfl) s ⟨#[97, 98, 99, 100, 101, 102, 103, 104, 105, 106, 107, 108, 109, 110, 111, 112, 113, 114, 115, 116, 117, 118, 119, 120, 121, 122, 95, 48, 49, 50, 51, 52, 53, 54, 55, 56, 57]⟩ w hs (by decide) (ascii_of_all (by decide))
set_option maxHeartbeats 1000000 in
theorem name_any (l : List UInt8) (w : World) :
    Calls Tryz.prog 126 #[.string ⟨l.toArray⟩] w fun e w' => e = .returned (.bool (nameR l)) ∧ Below w.heap.size w w' := by
  have hL : (⟨l.toArray⟩ : ByteArray).toList = l := by rw [ByteArray.toList_eq]
  have hsz : (⟨l.toArray⟩ : ByteArray).size = l.length := rfl
  rcases l with _ | ⟨c, t⟩
  · go_enter Tryz.func126, Tryz.ntmps126
    go_wp2
    go_ret
    exact ⟨rfl, Below.refl _ _⟩
  · have h0 : (c :: t).isEmpty = false := rfl
    by_cases h16 : 16 < (c :: t).length
    · have hz : (16 : Int) < ((c :: t).length : Int) := by omega
      have R : Hid (nameR (c :: t) = false) := by show (decide ((c :: t).length ≤ 16) && isLet c && (c :: t).all isWord) = false; rw [decide_eq_false (by omega)]; rfl
      generalize c :: t = l at *
      go_enter Tryz.func126, Tryz.ntmps126
      go_wp2
      go_ret
      exact ⟨by rw [R.out]; rfl, Below.refl _ _⟩
    · have hz : ¬ (16 : Int) < ((c :: t).length : Int) := by omega
      have h1 : 1 ≤ (c :: t).length := by simp
      have T1 := Lib.hid (fun W => trimL ((⟨(c :: t).toArray⟩ : ByteArray).extract 0 1) W (by rw [Lib.size_eq, Lib.extract_data]; simp))
      have T2 := Lib.hid (fun W => trimW (⟨(c :: t).toArray⟩ : ByteArray) W (by rw [hsz]; omega))
      have e1 : ((⟨(c :: t).toArray⟩ : ByteArray).extract 0 1).data.toList = [c] := by rw [Lib.extract_data]; simp
      rw [e1] at T1
      have a1 := trim_nil [c] lettersL
      have a2 := trim_nil (c :: t) wordL
      rw [all_let] at a1
      rw [all_word] at a2
      have R : Hid (nameR (c :: t) = (isLet c && (c :: t).all isWord)) := by show (decide ((c :: t).length ≤ 16) && isLet c && (c :: t).all isWord) = _; rw [decide_eq_true (by omega)]; rfl
      obtain ⟨u1, hu1⟩ : ∃ u1, Lib.trimS [c] lettersL = u1 := ⟨_, rfl⟩
      obtain ⟨u2, hu2⟩ : ∃ u2, Lib.trimS (c :: t) wordL = u2 := ⟨_, rfl⟩
      rw [hu1] at T1 a1
      rw [show Lib.trimS (⟨(c :: t).toArray⟩ : ByteArray).data.toList wordL = u2 from hu2] at T2
      rw [hu2] at a2
      have g1 : (⟨u1.toArray⟩ : ByteArray).toList = u1 := by rw [ByteArray.toList_eq]
      have g2 : (⟨u2.toArray⟩ : ByteArray).toList = u2 := by rw [ByteArray.toList_eq]
      clear hu1 hu2 e1 h16
      rw [List.all_cons, List.all_nil, Bool.and_true] at a1
      generalize (c :: t).all isWord = b2 at *
      generalize isLet c = b1 at *
      generalize c :: t = l at *
      have A1 := Lib.hid a1
      have A2 := Lib.hid a2
      clear a1 a2
      cases b1
      · have k1 : u1.isEmpty = false := by
          cases u1 with
          | nil => have := A1.out.1 rfl; cases this
          | cons _ _ => rfl
        go_enter Tryz.func126, Tryz.ntmps126
        go_wp2_with fail
        refine (T1.out _).mono ?_
        rintro e w1 ⟨rfl, hb1⟩
        go_wp2
        go_ret
        exact ⟨by rw [R.out]; rfl, hb1⟩
      · obtain rfl : u1 = [] := A1.out.2 rfl
        go_enter Tryz.func126, Tryz.ntmps126
        go_wp2_with fail
        refine (T1.out _).mono ?_
        rintro e w1 ⟨rfl, hb1⟩
        go_wp2_with fail
        refine (T2.out _).mono ?_
        rintro e w2 ⟨rfl, hb2⟩
        have hB := hb1.trans (hb2.mono hb1.size)
        cases b2
        · have k2 : u2.isEmpty = false := by
            cases u2 with
            | nil => have := A2.out.1 rfl; cases this
            | cons _ _ => rfl
          go_wp2
          go_ret
          exact ⟨by rw [R.out]; rfl, hB⟩
        · obtain rfl : u2 = [] := A2.out.2 rfl
          go_wp2
          go_ret
          exact ⟨by rw [R.out]; rfl, hB⟩
attribute [local go_sem] Oper.semAt_some
def labV (x : Lab) : Value := .agg #[.string ⟨x.1.toArray⟩, .string ⟨x.2.toArray⟩]
set_option maxHeartbeats 4000000 in
theorem values1_in (F : Fence) (n : Nat) (hf : F.fn 143) (hro : F.round = none) (hn : 1 ≤ n) (l Bs n₀ b off cap : Nat) (zs : List SLab) (hreach : zs.length ≤ 1000000) (hb : b < n₀) (J Jx : List SLab → World → Prop)
    (hJa : ∀ pre W o, J pre W → J pre (W.alloc o))
    (hY : ∀ pre x W, J pre W → pre.length < zs.length → YieldAt F (n - 1) Tryz.prog l #[labV x.1] W fun e W' =>
      (e = .returned (.bool true) ∧ J (pre ++ [x]) W' ∧ Below n₀ W W') ∨ (e = .returned (.bool false) ∧ Jx (pre ++ [x]) W'))
    (W : World) (hn0 : n₀ ≤ W.heap.size) (hBs : W.cell? ⟨Bs, 0, none⟩ = some (.slice (some ⟨b, off, none⟩) zs.length cap))
    (hc : ∀ j x, zs[j]? = some x → W.cell? ⟨b, off + j * 2, none⟩ = some (.string ⟨x.1.1.toArray⟩) ∧ W.cell? ⟨b, off + j * 2 + 1, none⟩ = some (.string ⟨x.1.2.toArray⟩)) (h0 : J [] W) :
    CallsIn F n Tryz.prog 143 #[.func (.yield l) #[] #[], .pointer (some ⟨Bs, 0, none⟩)] W fun e W' => (∃ v, e = .returned v) ∧
      ((∃ ys, ys = zs ∧ J ys W') ∨ (∃ pre, pre <+: zs ∧ Jx pre W')) := by
  refine callsIn_of_wp Tryz.func143 rfl hf ?_ hro
  simp only [Tryz.ntmps143, List.size_toArray, List.length_cons, List.length_nil, Nat.reduceAdd, Nat.reduceSub, Array.replicate_succ, Array.replicate_zero, List.push_toArray, List.append_toArray, List.nil_append, List.cons_append]
  gi_wp2
  gi_loopw [7] (fun i wr => ∃ k : Nat, k ≤ zs.length ∧ i = .int .i64 (k : Int) ∧ J (zs.take k) wr ∧ Below n₀ W wr ∧ n₀ ≤ wr.heap.size)
    (fun i _ => zs.length - (intOf i).toNat)
  case atStart => exact ⟨0, Nat.zero_le _, rfl, h0, Below.refl _ _, hn0⟩
  case round =>
    obtain ⟨k, hk, rfl, hJs, hnx, hge⟩ := hrel
    by_cases hlt : k < zs.length
    · obtain ⟨x, hx⟩ : ∃ x, zs[k]? = some x := ⟨_, List.getElem?_eq_getElem hlt⟩
      obtain ⟨hn1, he1⟩ := List.getElem?_eq_some_iff.1 hx
      have htk : zs.take (k + 1) = zs.take k ++ [x] := by rw [List.take_succ_eq_append_getElem hn1, he1]
      obtain ⟨c0, c1⟩ := hc k x hx
      have c0 := (hnx.cell (p := ⟨b, off + k * 2, none⟩) hb).trans c0
      have c1 := (hnx.cell (p := ⟨b, off + k * 2 + 1, none⟩) hb).trans c1
      have hJa' := hJa _ _ (.cells #[.string ⟨x.1.1.toArray⟩, .string ⟨x.1.2.toArray⟩] 78) hJs
      obtain ⟨fn, tmps, assign, body, hy, hR⟩ := hY _ x _ hJa' (by rw [List.length_take]; omega)
      unfold labV at hy
      have h1 : (0 : Int) ≤ (k : Int) := by omega
      have h2 : (k : Int) < (zs.length : Int) := by omega
      have TK := Lib.hid htk
      clear htk hx he1
      gi_wp2
      refine hR.mono ?_
      rintro e W3 (⟨rfl, hJ3, hk3⟩ | ⟨rfl, hJx3⟩)
      · gi_wp2
        go_roundw
        case rel => exact ⟨k + 1, by omega, by simp, by rw [TK.out]; exact hJ3, hnx.trans (((Below.refl _ _).alloc hge _).trans hk3), Nat.le_trans (Nat.le_trans hge (by simp)) hk3.size⟩
        case measure => simp [intOf]; omega
      · gi_wp2
        refine bodyPost_ret (results_none rfl _ _ _) rfl ?_
        exact ⟨⟨_, rfl⟩, .inr ⟨_, by rw [← TK.out]; exact List.take_prefix _ _, hJx3⟩⟩
    · obtain rfl : k = zs.length := by omega
      gi_wp2
      go_end0
      rw [List.take_length] at hJs
      exact ⟨⟨_, rfl⟩, .inl ⟨_, rfl, hJs⟩⟩
theorem values1_nil_in (F : Fence) (n : Nat) (hf : F.fn 143) (hro : F.round = none) (l Bs : Nat) (J : List SLab → World → Prop) (a : Option Addr) (c : Nat) (W : World) (hBs : W.cell? ⟨Bs, 0, none⟩ = some (.slice a 0 c)) (h0 : J [] W) :
    CallsIn F n Tryz.prog 143 #[.func (.yield l) #[] #[], .pointer (some ⟨Bs, 0, none⟩)] W fun e W' => (∃ v, e = .returned v) ∧ J [] W' := by
  refine callsIn_of_wp Tryz.func143 rfl hf ?_ hro
  simp only [Tryz.ntmps143, List.size_toArray, List.length_cons, List.length_nil, Nat.reduceAdd, Nat.reduceSub, Array.replicate_succ, Array.replicate_zero, List.push_toArray, List.append_toArray, List.nil_append, List.cons_append]
  gi_wp2
  gi_loopw [7] (fun i wr => i = .int .i64 0 ∧ J [] wr) (fun _ _ => 0)
  case atStart => exact ⟨rfl, h0⟩
  case round =>
    obtain ⟨rfl, hJs⟩ := hrel
    gi_wp2
    go_end0
    exact ⟨⟨_, rfl⟩, hJs⟩
/-- slices.Values(s): the slice value is boxed; the function value captures the box -/
theorem values_in (F : Fence) (n : Nat) (hf : F.fn 113) (hro : F.round = none) (a : Option Addr) (len cap : Nat) (w : World) :
    CallsIn F n Tryz.prog 113 #[.slice a len cap] w fun e w' => e = .returned (.func (.func 143) #[] #[.pointer (some ⟨w.heap.size, 0, none⟩)]) ∧ w' = w.alloc (.cells #[.slice a len cap] 24) := by
  refine callsIn_of_wp Tryz.func113 rfl hf ?_ hro
  simp only [Tryz.ntmps113, List.size_toArray, List.length_cons, List.length_nil, Nat.reduceAdd, Nat.reduceSub, Array.replicate_succ, Array.replicate_zero, List.push_toArray, List.append_toArray, List.nil_append, List.cons_append]
  gi_wp2
  go_ret
  exact ⟨rfl, rfl⟩
/-- all of zs, in order; or a prefix -/
theorem values_stops (F : Fence) (n : Nat) (hf : F.fn 143) (hro : F.round = none) (hn : 1 ≤ n) (Bs n₀ : Nat) (sv : Value) (zs : List SLab) (hreach : zs.length ≤ 1000000) (w : World) (hBs : Bs < w.heap.size) (hn₀ : n₀ ≤ w.heap.size)
    (hc : w.cell? ⟨Bs, 0, none⟩ = some sv) (hI : Labs n₀ w sv zs) :
    SeqStopsK F n Tryz.prog 143 #[.pointer (some ⟨Bs, 0, none⟩)] (fun x : SLab => #[labV x.1]) (Below n₀) (fun ys => ys = zs) (fun pre => pre <+: zs) zs.length w := fun l J Jx W hW hJ _ hY h0 => by
  have hc' := (hW.cell (p := ⟨Bs, 0, none⟩) hBs).trans hc
  rcases hI.below (hW.mono hn₀) with ⟨⟨a0, k0, rfl⟩, rfl⟩ | ⟨b, off, cap, rfl, hb, hcs⟩
  · exact (values1_nil_in F n hf hro l Bs J a0 k0 W hc' h0).mono fun e W' ⟨he, hj⟩ => ⟨he, .inl ⟨_, rfl, hj⟩⟩
  · exact (values1_in F n hf hro hn l Bs n₀ b off cap zs hreach hb J Jx (fun pre W1 o h => hJ pre W1 (W1.alloc o) none h (World.grownBy_alloc _ _ none) (fun r e => by cases e)) hY W (Nat.le_trans hn₀ hW.size) hc' hcs h0).mono fun e W' h => h
theorem info_u8 : (Tryz.prog.info? 5).map (fun i => (i.zero, i.size, i.bytes)) = some (some (.int .u8 0), 1, 1) := by kernel_rfl
def escC (c : UInt8) : List UInt8 := if c.toNat = 34 ∨ c.toNat = 92 then [92, c] else [c]
def escR (l : List UInt8) : List UInt8 := l.flatMap escC
theorem escR_snoc (l : List UInt8) (c : UInt8) : escR (l ++ [c]) = escR l ++ escC c := by unfold escR; simp
theorem escC_len (c : UInt8) : (escC c).length ≤ 2 := by unfold escC; split <;> simp
theorem escR_len (l : List UInt8) : (escR l).length ≤ 2 * l.length := by
  induction l with
  | nil => simp [escR]
  | cons c t ih =>
    have := escC_len c
    unfold escR at *
    rw [List.flatMap_cons, List.length_append, List.length_cons]
    omega
/-- a row of bytes that the call owns, in a world that came of w -/
structure EW (w : World) (base : Nat) (v : Value) (S : List UInt8) (W : World) : Prop where
  own : W.ownsRow base 5 1 v S.length (byteCells S)
  bel : Below base w W
  oth : OthersKept 5 none w W
  ge : base ≤ W.heap.size
theorem EW.app {w W W' : World} {base : Nat} {v v' : Value} {S X : List UInt8} (h : EW w base v S W) (o : Obj) (own : W'.ownsRow base 5 1 v' (S.length + X.length) (byteCells S ++ byteCells X)) (g : (W.alloc o).grownBy W' v.ownBlock) : EW w base v' (S ++ X) W' := by
  have hk : ∀ i, v.ownBlock = some i → base ≤ i ∧ ∃ c fz, (W.alloc o).heap[i]? = some (.cells c 5 fz) := by
    intro i e
    rcases h.own.2 with ⟨rfl, _⟩ | ⟨gg, cap, cur, rfl, hb, hgb, _⟩
    · simp [Value.ownBlock] at e
    · obtain rfl : gg = i := by simpa [Value.ownBlock] using e
      exact ⟨hb, _, _, (Below.heap_alloc W o gg (Array.getElem?_eq_some_iff.1 hgb).1).trans hgb⟩
  refine ⟨?_, (h.bel.alloc h.ge o).grown g (by have := h.ge; simp; omega) (fun i e => (hk i e).1), (h.oth.alloc o).grown g (fun i e => (hk i e).2), ?_⟩
  · rw [List.length_append, show byteCells (S ++ X) = byteCells S ++ byteCells X by simp [byteCells]]; exact own
  · have := g.size; have := h.ge; simp at *; omega
theorem blk_own {β : Type} (B : Nat) (T : TypeId) (cs : Array Value) : Own (fun (_ : β) W => Blk W B cs T) := fun s X Y row hs hg hrow =>
  (hg.block B (Array.getElem?_eq_some_iff.1 hs).1 (fun e' => by obtain ⟨o, ho, hc⟩ := hrow B e'.symm; rw [show X.heap[B]? = _ from hs] at ho; cases ho; cases hc)).trans hs
def labT (x : Lab) : List UInt8 := x.1 ++ [61, 34] ++ escR x.2 ++ [34]
def lStep (s : List UInt8 × List UInt8) (x : SLab) : List UInt8 × List UInt8 := (s.1 ++ s.2 ++ labT x.1, [44])
/-- the text of the labels gone through, and what stands ahead of the next one -/
def runS (pre : List SLab) : List UInt8 × List UInt8 := pre.foldl lStep ([123], [])
theorem runS_snoc (pre : List SLab) (x : SLab) : runS (pre ++ [x]) = ((runS pre).1 ++ (runS pre).2 ++ labT x.1, [44]) := by
  unfold runS; rw [List.foldl_append]; rfl
theorem labT_len (x : SLab) : (labT x.1).length ≤ 603 := by
  unfold labT
  have := escR_len x.1.2
  have h1 := x.2.1
  have h2 := x.2.2
  simp only [List.length_append, List.length_cons, List.length_nil]
  omega
theorem runS_len (pre : List SLab) : (runS pre).1.length ≤ 1 + 604 * pre.length ∧ (runS pre).2.length ≤ 1 := by
  have g : ∀ (l : List SLab) (s : List UInt8 × List UInt8), s.2.length ≤ 1 → (l.foldl lStep s).1.length ≤ s.1.length + 604 * l.length ∧ (l.foldl lStep s).2.length ≤ 1 := by
    intro l
    induction l with
    | nil => intro s h2; exact ⟨by simp, h2⟩
    | cons x t ih =>
      intro s h2
      rw [List.foldl_cons]
      obtain ⟨a, b⟩ := ih (lStep s x) (by unfold lStep; simp)
      have hl := labT_len x
      have e : (lStep s x).1.length ≤ s.1.length + 604 := by unfold lStep; simp only [List.length_append]; omega
      rw [List.length_cons]
      exact ⟨by omega, b⟩
  have := g pre ([123], []) (by simp)
  simpa [runS] using this
theorem bapp (a b : List UInt8) : ((⟨a.toArray⟩ : ByteArray) ++ ⟨b.toArray⟩) = ⟨(a ++ b).toArray⟩ := by
  apply ByteArray.ext; simp
theorem row_at {w : World} {base e n : Nat} {v : Value} {xs : List Value} (h : w.ownsRow base e 1 v n xs) : ∀ i, v.ownBlock = some i → base ≤ i ∧ ∃ c fz, w.heap[i]? = some (.cells c e fz) := by
  intro i e'
  rcases h.2 with ⟨rfl, _⟩ | ⟨gg, cap, cur, rfl, hb, hgb, _⟩
  · simp [Value.ownBlock] at e'
  · obtain rfl : gg = i := by simpa [Value.ownBlock] using e'
    exact ⟨hb, _, _, hgb⟩
theorem bcells_app (a b : List UInt8) : Lib.byteCells (a ++ b) = Lib.byteCells a ++ Lib.byteCells b := by simp [Lib.byteCells]
def badR (r : Nat) : Bool := decide (r < 32) || decide (126 < r)
theorem idx_bad (s : ByteArray) : ∀ (f pos : Nat), s.size ≤ pos + f → decide (0 ≤ Lib.idxFuncFrom badR true s f pos) = (s.data.toList.drop pos).any badB := by
  intro f
  induction f with
  | zero =>
    intro pos h
    rw [List.drop_eq_nil_of_le (by rw [← Lib.size_eq]; omega)]
    rfl
  | succ f ih =>
    intro pos h
    unfold Lib.idxFuncFrom
    by_cases hp : pos < s.size
    · rw [if_pos hp]
      have hd : s.data.toList[pos]? = some (s[pos]'hp) := Lib.data_getElem? s pos hp
      obtain ⟨hn, he⟩ := List.getElem?_eq_some_iff.1 hd
      rw [List.drop_eq_getElem_cons hn, List.any_cons, he]
      by_cases ha : (s[pos]'hp).toNat < 128
      · rw [decode_ascii s pos hp ha]
        dsimp only
        have e : badR (s[pos]'hp).toNat = badB (s[pos]'hp) := rfl
        rw [e]
        cases hb : badB (s[pos]'hp)
        · simp only [Bool.false_eq_true, if_false, Bool.false_or]
          exact ih (pos + 1) (by omega)
        · simp
      · have hr := decode_high s pos hp (by omega)
        have e : badR (Utf8.decode s pos).1 = true := by
          unfold badR
          rw [decide_eq_true (show 126 < (Utf8.decode s pos).1 by omega), Bool.or_true]
        have e2 : badB (s[pos]'hp) = true := by
          unfold badB
          rw [decide_eq_true (show 126 < (s[pos]'hp).toNat by omega), Bool.or_true]
        rw [if_pos e, e2]
        simp
    · rw [if_neg hp, List.drop_eq_nil_of_le (by rw [← Lib.size_eq]; omega)]
      rfl
theorem value_pred (w : World) : PredAt Tryz.prog 150 #[] encR badR w := fun W r _ => by
  unfold FnGives
  by_cases h1 : r < 32
  · have e : badR r = true := by unfold badR; rw [decide_eq_true h1]; rfl
    have h1' : (r : Int) < 32 := by omega
    rw [e]
    go_enter Tryz.func150, Tryz.ntmps150
    go_wp2
    go_ret
    exact ⟨rfl, 0, rfl⟩
  · have h1' : ¬ (r : Int) < 32 := by omega
    by_cases h2 : 126 < r
    · have e : badR r = true := by unfold badR; rw [decide_eq_true h2, Bool.or_true]
      have h2' : (126 : Int) < (r : Int) := by omega
      rw [e]
      go_enter Tryz.func150, Tryz.ntmps150
      go_wp2
      go_ret
      exact ⟨rfl, 0, rfl⟩
    · have e : badR r = false := by unfold badR; rw [decide_eq_false h1, decide_eq_false h2]; rfl
      have h2' : ¬ (126 : Int) < (r : Int) := by omega
      rw [e]
      go_enter Tryz.func150, Tryz.ntmps150
      go_wp2
      go_ret
      exact ⟨rfl, 0, rfl⟩
theorem contains_bad (l : List UInt8) (w : World) :
    Calls Tryz.prog 149 #[.string ⟨l.toArray⟩, .func (.func 150) #[] #[]] w fun e w' => e = .returned (.bool (l.any badB)) ∧ Below w.heap.size w w' := by
  have h := Tryz.strings_ContainsFunc 150 #[] (enters_of Tryz.func150 (by kernel_rfl) rfl) badR ⟨l.toArray⟩ w (value_pred w)
  unfold Lib.idxFunc at h
  rw [idx_bad _ _ 0 (by omega)] at h
  exact h
theorem value_any (l : List UInt8) (w : World) :
    Calls Tryz.prog 127 #[.string ⟨l.toArray⟩] w fun e w' => e = .returned (.bool (valueR l)) ∧ Below w.heap.size w w' := by
  have hsz : (⟨l.toArray⟩ : ByteArray).size = l.length := rfl
  have C := Lib.hid (fun W => contains_bad l W)
  have R : Hid (valueR l = (!l.isEmpty && decide (l.length ≤ 64) && !l.any badB)) := rfl
  cases h0 : l.isEmpty
  · by_cases h64 : 64 < l.length
    · have hz : (64 : Int) < (l.length : Int) := by omega
      have R2 : Hid (valueR l = false) := by unfold Hid valueR; rw [decide_eq_false (show ¬ l.length ≤ 64 by omega)]; simp
      go_enter Tryz.func127, Tryz.ntmps127
      go_wp2
      go_ret
      exact ⟨by rw [R2.out]; rfl, Below.refl _ _⟩
    · have hz : ¬ (64 : Int) < (l.length : Int) := by omega
      have R2 : Hid (valueR l = !l.any badB) := by unfold Hid valueR; rw [decide_eq_true (show l.length ≤ 64 by omega), h0]; simp
      clear R
      generalize l.any badB = b at *
      go_enter Tryz.func127, Tryz.ntmps127
      go_wp2_with fail
      refine (C.out _).mono ?_
      rintro e w1 ⟨rfl, hb1⟩
      go_wp2
      go_ret
      exact ⟨by rw [R2.out]; rfl, hb1⟩
  · obtain rfl : l = [] := by simpa using h0
    go_enter Tryz.func127, Tryz.ntmps127
    go_wp2
    go_ret
    exact ⟨rfl, Below.refl _ _⟩
theorem grown_below {W w2 : World} (hb : Below W.heap.size W w2) : W.grownBy w2 none := ⟨hb.os, hb.tape, hb.output, hb.size, fun k hk _ => hb.block k hk⟩
theorem ko_below {W w2 : World} (hb : Below W.heap.size W w2) : KeepsOthers W w2 :=
  ⟨hb.size, fun k _ hk _ => (hb.block k (Array.getElem?_eq_some_iff.1 hk).1).trans hk⟩
theorem boxed_below {W w2 : World} {B : Nat} {t : TypeId} {v : Value} (h : Boxed W B t v) (hb : Below W.heap.size W w2) : Boxed w2 B t v := (hb.block B h.lt).trans h
theorem blk_below {W w2 : World} {B : Nat} {t : TypeId} {cs : Array Value} (h : Blk W B cs t) (hb : Below W.heap.size W w2) : Blk w2 B cs t := (hb.block B (Array.getElem?_eq_some_iff.1 h).1).trans h
set_option maxHeartbeats 4000000 in
theorem check_any (a : Option Addr) (len cap : Nat) (zs : List SLab) (hreach : zs.length ≤ 100) (w : World) (hI : Labs w.heap.size w (.slice a len cap) zs) :
    Calls Tryz.prog 87 #[.slice a len cap] w fun e w' => e = .returned (.int .i64 (checkR zs)) ∧ Below w.heap.size w w' := by
  obtain rfl : len = zs.length := hI.len
  by_cases h16 : 16 < zs.length
  · have hR : Hid (checkR zs = 4) := by unfold Hid checkR; rw [if_pos h16]
    have hz : (16 : Int) < (zs.length : Int) := by omega
    go_enter Tryz.func87, Tryz.ntmps87
    go_wp2
    refine bodyPost_ret (v := .int .i64 4) (by simp [results, Tryz.results87, go_sem]) rfl ⟨by rw [hR.out], by go_grown⟩
  have hR : Hid (checkR zs = chk [] zs) := by unfold Hid checkR; rw [if_neg h16]
  have hz : ¬ (16 : Int) < (zs.length : Int) := by omega
  refine (callsIn_wide (n := 9)).1 ?_
  refine callsIn_of_wp_marks Tryz.func87 rfl trivial ?_ rfl
  simp only [Tryz.ntmps87, List.size_toArray, List.length_cons, List.length_nil, Nat.reduceAdd, Nat.reduceSub, Array.replicate_succ, Array.replicate_zero, List.push_toArray, List.append_toArray, List.nil_append, List.cons_append]
  gi_wp2
  refine ⟨trivial, (values_in Fence.wide 8 trivial rfl _ _ _ _).mono ?_⟩
  rintro e w1 ⟨rfl, rfl⟩
  gi_wp2
  obtain ⟨W0, hW0⟩ : ∃ W0, (((w.alloc (.cells #[.int .i64 0] 28)).alloc (.cells #[.string ⟨#[]⟩] 9)).alloc (.cells #[.slice a zs.length cap] 24)) = W0 := ⟨_, rfl⟩
  have hlp : Below w.heap.size w W0 := by rw [← hW0]; go_grown
  have hsz : W0.heap.size = w.heap.size + 3 := by rw [← hW0]; simp
  have br0 : Boxed W0 w.heap.size 28 (.int .i64 0) := by
    rw [← hW0]
    exact ((Boxed.new w 28 (.int .i64 0)).alloc _).alloc _
  have bl0 : Boxed W0 (w.heap.size + 1) 9 (.string ⟨#[]⟩) := by
    rw [← hW0]
    have h := Boxed.new (w.alloc (.cells #[.int .i64 0] 28)) 9 (.string ⟨#[]⟩)
    rw [World.size_alloc] at h
    exact h.alloc _
  have bs0 : W0.cell? ⟨w.heap.size + 1 + 1, 0, none⟩ = some (.slice a zs.length cap) := by
    rw [← hW0]
    have h := cell_one_new ((w.alloc (.cells #[.int .i64 0] 28)).alloc (.cells #[.string ⟨#[]⟩] 9)) (.slice a zs.length cap) 24 0 _ rfl
    simpa [Addr.add] using h
  have hI0 := hI.below hlp
  rw [hW0]
  clear hW0 hI
  refine wpIn_rangeFunc_ownH (F := Fence.wide) (n := 9) rfl (by omega) (gf := 143) (lb := #[.pointer (some ⟨w.heap.size + 1 + 1, 0, none⟩)]) rfl trivial (enters_of Tryz.func143 (by kernel_rfl) rfl)
    (encs := fun x => #[labV x.1]) (Kp := Below w.heap.size) (values_stops Fence.wide (9 - 1) trivial rfl (by omega) (w.heap.size + 1 + 1) w.heap.size (.slice a zs.length cap) zs (by omega) W0 (by omega) (by omega) bs0 hI0) belowK_t (belowK_b (by omega)) (Below.refl _ _) (fun _ => rfl)
    (fun pre W => chk [] pre = 0 ∧ Boxed W w.heap.size 28 (.int .i64 0) ∧ Boxed W (w.heap.size + 1) 9 (.string ⟨(lastN [] pre).toArray⟩) ∧ Below w.heap.size w W)
    (fun c pre W => (c = .ret ∧ chk [] pre ≠ 0) ∧ Boxed W w.heap.size 28 (.int .i64 (chk [] pre)) ∧ Below w.heap.size w W)
    (OwnFrom.and (ownFrom_pure _ _) (OwnFrom.and (Own.from (boxed_own w.heap.size 28 (fun _ => .int .i64 0)) _) (OwnFrom.and (Own.from (boxed_own (w.heap.size + 1) 9 (fun pre => .string ⟨(lastN [] pre).toArray⟩)) _) (ownFrom_below (Nat.le_refl _) (by rw [hsz]; omega)))))
    (fun c => OwnFrom.and (ownFrom_pure _ _) (OwnFrom.and (Own.from (boxed_own w.heap.size 28 (fun pre => .int .i64 (chk [] pre))) _) (ownFrom_below (Nat.le_refl _) (by rw [hsz]; omega))))
    ⟨rfl, br0, bl0, hlp⟩
    (fun x a' W => ∃ Bx, w.heap.size + 1 < Bx ∧ Blk W Bx #[.string ⟨x.1.1.toArray⟩, .string ⟨x.1.2.toArray⟩] 78 ∧ a' = { tmps := #[.slice a zs.length cap, undef, .pointer (some ⟨w.heap.size, 0, none⟩), .pointer (some ⟨w.heap.size + 1, 0, none⟩), .pointer (some ⟨Bx, 0, none⟩), .slice a zs.length cap, .int .i64 (zs.length : Int), .bool false, .slice a zs.length cap, .func (.func 143) #[] #[.pointer (some ⟨w.heap.size + 1 + 1, 0, none⟩)], .agg #[.string ⟨x.1.1.toArray⟩, .string ⟨x.1.2.toArray⟩], undef, undef, undef, undef, undef, undef, undef, undef, undef, undef, undef, undef, undef, undef, undef, undef, undef], defers := [] })
    (fun x a' => ?ax) ?assign ?body ?done ?stop
  case ax => exact fun s X Y row ⟨Bx, q1, q2, q3⟩ hg hr => ⟨Bx, q1, (blk_own (β := Unit) Bx _ _).from _ () X Y row q2 hg hr, q3⟩
  case assign =>
    rintro l pre x W K ⟨hp, hn, hr0, hB⟩ hK
    simp only [labV]
    have hWs : w.heap.size + 1 < W.heap.size := hr0.lt
    gi_wp2
    exact hK _ _ ((KeepsOthers.alloc _ _).from _) ((Below.refl _ W).alloc (by omega) _) ⟨hp, hn.alloc _, hr0.alloc _, below_new hB _⟩ ⟨W.heap.size, hWs, heap_alloc_new W _, rfl⟩
  case body =>
    rintro l pre x a' W hl ⟨r, hr⟩ ⟨hp, hn, hr0, hB⟩ ⟨Bx, hBx, bX, rfl⟩ hlen
    have hpx := chk_app pre [x] [] hp
    rw [chk_cons] at hpx
    have hls := lastN_snoc [] pre x
    obtain ⟨⟨xn, xv⟩, hx⟩ := x
    dsimp only at bX hpx hls
    generalize lastN [] pre = last at *
    have HPX := Lib.hid hpx
    have HLS := Lib.hid hls
    clear hpx hp hls
    have cx0 := blk_cell (j := 0) bX rfl
    have HN := Lib.hid (name_any xn W)
    cases hnm : nameR xn
    · rw [hnm] at HN HPX
      have c3 := hn.cell
      have f3 := hn.frozen
      gi_wp2
      refine ⟨trivial, (CallsIn.inRound l (callsIn_wide.2 HN.out)).mono ?_⟩
      rintro e w2 ⟨rfl, hb2⟩
      have n2 := boxed_below hn hb2
      have c3 := n2.cell
      have f3 := n2.frozen
      have hB2 := hB.trans (hb2.mono hB.size)
      have e5 : chk [] (pre ++ [⟨(xn, xv), hx⟩]) = 5 := by rw [HPX.out]; simp
      have K2 := (ko_below hb2).trans (KeepsOthers.setCell w2 ⟨w.heap.size, 0, none⟩ (.int .i64 5))
      have B3 := hB2.setCell (p := ⟨w.heap.size, 0, none⟩) (Nat.le_refl _) (.int .i64 5)
      have E5 := Lib.hid e5
      clear e5 HPX HLS hb2 hB2 HN
      gi_wp2
      exact ⟨K2.from _, ⟨rfl, by rw [E5.out]; decide⟩, by rw [E5.out]; exact n2.set _, B3⟩
    · rw [hnm] at HN HPX
      have e5 : chk [] (pre ++ [⟨(xn, xv), hx⟩]) = (if (Op.bytesLess xn last || xn == last) = true then 6 else if valueR xv = false then 1 else 0) := by rw [HPX.out, if_neg (by simp)]; rfl
      have E5 := Lib.hid e5
      clear e5 HPX
      gi_wp2
      refine ⟨trivial, (CallsIn.inRound l (callsIn_wide.2 HN.out)).mono ?_⟩
      rintro e w2 ⟨rfl, hb2⟩
      have n2 := boxed_below hn hb2
      have m2 := boxed_below hr0 hb2
      have b2 := blk_below bX hb2
      have hB2 := hB.trans (hb2.mono hB.size)
      have K2 := ko_below hb2
      have L2 : Below w.heap.size W w2 := hb2.mono hB.size
      have hs2 := hB2.size
      have hs3 := n2.lt
      clear hb2 HN hn hr0 bX cx0 hB
      have c3 := n2.cell
      have f3 := n2.frozen
      have c4 := m2.cell
      have f4 := m2.frozen
      have cx0 := blk_cell (j := 0) b2 rfl
      have cx1 := blk_cell (j := 1) b2 rfl
      have HV := Lib.hid (value_any xv w2)
      have g1 : ByteArray.toList ⟨xn.toArray⟩ = xn := by rw [ByteArray.toList_eq]
      have g2 : ByteArray.toList ⟨last.toArray⟩ = last := by rw [ByteArray.toList_eq]
      obtain ⟨bl, hbl⟩ : ∃ bl, (Op.bytesLess xn last || xn == last) = bl := ⟨_, rfl⟩
      rw [hbl] at E5
      cases bl
      · cases hvl : valueR xv
        · rw [hvl] at E5 HV
          have e5 : chk [] (pre ++ [⟨(xn, xv), hx⟩]) = 1 := by rw [E5.out]; simp
          have F5 := Lib.hid e5
          clear e5 E5
          gi_wp2
          refine ⟨trivial, (CallsIn.inRound l (callsIn_wide.2 HV.out)).mono ?_⟩
          rintro e w3 ⟨rfl, hb3⟩
          have n3 := boxed_below n2 hb3
          have c3 := n3.cell
          have f3 := n3.frozen
          have hB3 := (hB2.trans (hb3.mono hs2)).setCell (p := ⟨w.heap.size, 0, none⟩) (Nat.le_refl _) (.int .i64 1)
          have K3 := (K2.trans (ko_below hb3)).trans (KeepsOthers.setCell w3 ⟨w.heap.size, 0, none⟩ (.int .i64 1))
          clear hb3
          gi_wp2
          exact ⟨K3.from _, ⟨rfl, by rw [F5.out]; decide⟩, by rw [F5.out]; exact n3.set _, hB3⟩
        · rw [hvl] at E5 HV
          have e5 : chk [] (pre ++ [⟨(xn, xv), hx⟩]) = 0 := by rw [E5.out]; simp
          have F5 := Lib.hid e5
          clear e5 E5
          gi_wp2
          refine ⟨trivial, (CallsIn.inRound l (callsIn_wide.2 HV.out)).mono ?_⟩
          rintro e w3 ⟨rfl, hb3⟩
          have n3 := boxed_below n2 hb3
          have m3 := boxed_below m2 hb3
          have b3 := blk_below b2 hb3
          have c3 := n3.cell
          have f3 := n3.frozen
          have c4 := m3.cell
          have f4 := m3.frozen
          have cx0 := blk_cell (j := 0) b3 rfl
          have hB3 := (hB2.trans (hb3.mono hs2)).setCell (p := ⟨w.heap.size + 1, 0, none⟩) (by simp) (.string ⟨xn.toArray⟩)
          have K3 := (K2.trans (ko_below hb3)).trans (KeepsOthers.setCell w3 ⟨w.heap.size + 1, 0, none⟩ (.string ⟨xn.toArray⟩))
          have L3 := (L2.trans (hb3.mono hs2)).setCell (p := ⟨w.heap.size + 1, 0, none⟩) (by simp) (.string ⟨xn.toArray⟩)
          clear hb3
          gi_wp2
          exact ⟨K3.from _, L3, F5.out, n3.other (by omega) _, by rw [HLS.out]; exact m3.set _, hB3⟩
      · have e5 : chk [] (pre ++ [⟨(xn, xv), hx⟩]) = 6 := by rw [E5.out]; simp
        have F5 := Lib.hid e5
        have hB3 := hB2.setCell (p := ⟨w.heap.size, 0, none⟩) (Nat.le_refl _) (.int .i64 6)
        have K3 := K2.trans (KeepsOthers.setCell w2 ⟨w.heap.size, 0, none⟩ (.int .i64 6))
        clear e5 E5
        gi_wp2
        exact ⟨K3.from _, ⟨rfl, by rw [F5.out]; decide⟩, by rw [F5.out]; exact n2.set _, hB3⟩
  case done =>
    rintro D ys W hD rfl ⟨hp, hn, hr0, hB⟩ hK
    have c4 := hn.cell
    have f4 := hn.frozen
    have HP := Lib.hid hp
    clear hp
    gi_wp2
    have hn1 := hn.set (.int .i64 0)
    have hK' := (KeepsOthers.setCell W ⟨w.heap.size, 0, none⟩ (.int .i64 0)).same D _ hK rfl
    refine ⟨by simp, .inl ⟨_, _, rfl, run_takeDeferred hK', ?_⟩⟩
    have hc5 := cell_kept hn1.cell (grownBy_putObj' _ D (.deferred none)) (fun r e => by cases e; exact ⟨_, hK', rfl⟩)
    exact ⟨.int .i64 0, by simp [results, Tryz.f87, go_sem, hc5], by rw [hR.out, HP.out], (hB.setCell (p := ⟨w.heap.size, 0, none⟩) (by simp) _).trans (belowK_b (w := w) (Nat.le_refl _) _ D _ _ (by rw [hsz] at hD; omega) hK' rfl rfl)⟩
  case stop =>
    rintro D c pre W hD ⟨t, rfl⟩ ⟨⟨rfl, hne⟩, hr0, hB⟩ hK
    have c4 := hr0.cell
    have HE := Lib.hid hne
    clear hne
    gi_wp2
    refine ⟨by simp, .inl ⟨_, _, rfl, run_takeDeferred hK, ?_⟩⟩
    have hc5 := cell_kept c4 (grownBy_putObj' _ D (.deferred none)) (fun r e => by cases e; exact ⟨_, hK, rfl⟩)
    exact ⟨.int .i64 (chk [] pre), by simp [results, Tryz.f87, go_sem, hc5], by rw [hR.out, chk_pre _ _ _ HE.out], hB.trans (belowK_b (w := w) (Nat.le_refl _) W D _ _ (by rw [hsz] at hD; omega) hK rfl rfl)⟩
theorem bytes_mk (s : ByteArray) (l : List UInt8) (h : s.data.toList = l) : s = ⟨l.toArray⟩ := by
  cases s with
  | mk d => simp at h; subst h; rfl
theorem EW.drew {w W : World} {base : Nat} {v : Value} {S : List UInt8} (h : EW w base v S W) : EW w base v S W.drew := ⟨h.own, h.bel.drew, h.oth.drew, h.ge⟩
/-- an item: its name, the word, its value -/
abbrev Itm := List UInt8 × List UInt8 × List UInt8
def itmV (x : Itm) : Value := .agg #[.string ⟨x.1.toArray⟩, .string ⟨x.2.1.toArray⟩, .string ⟨x.2.2.toArray⟩]
def labI (x : Lab) : Itm := (x.1, [61], x.2)
def ShortI (x : Itm) : Prop := x.1.length ≤ 1000 ∧ x.2.1.length ≤ 1000 ∧ x.2.2.length ≤ 1000
abbrev SItm := { x : Itm // ShortI x }
def toI (x : SLab) : SItm := ⟨labI x.1, by have h := x.2; unfold Short at h; unfold ShortI labI; simp; omega⟩
def numV (va tm sr sq : Int) : Value := .agg #[.int .i64 va, .int .i64 tm, .int .i64 sr, .int .i64 sq]
theorem numbersOf_any (sl : Value) (va tm sr sq : Int) (w : World) : Calls Tryz.prog 67 #[sampV sl va tm sr sq] w fun e w' => e = .returned (numV va tm sr sq) ∧ Below w.heap.size w w' := by
  unfold sampV numV
  go_enter Tryz.func67, Tryz.ntmps67
  go_wp2
  refine bodyPost_ret (by simp [results, Tryz.results67, go_sem]; try rfl) rfl ?_
  exact ⟨rfl, by go_grown⟩
theorem spanCheck_any (t : Int) (w : World) : Calls Tryz.prog 101 #[.int .i64 t] w fun e w' => e = .returned (.int .i64 (timeR t)) ∧ w = w' := by
  by_cases h1 : t < 0
  · have R : Hid (timeR t = 1) := by unfold Hid timeR; rw [if_pos (.inl h1)]
    go_enter Tryz.func101, Tryz.ntmps101
    go_wp2
    go_ret
    exact ⟨by rw [R.out]; rfl, rfl⟩
  · by_cases h2 : 4398046511104 < t
    · have R : Hid (timeR t = 1) := by unfold Hid timeR; rw [if_pos (.inr h2)]
      go_enter Tryz.func101, Tryz.ntmps101
      go_wp2
      go_ret
      exact ⟨by rw [R.out]; rfl, rfl⟩
    · have R : Hid (timeR t = 0) := by unfold Hid timeR; rw [if_neg (by omega)]
      go_enter Tryz.func101, Tryz.ntmps101
      go_wp2
      go_ret
      exact ⟨by rw [R.out]; rfl, rfl⟩
set_option maxHeartbeats 2000000 in
theorem check_bad (a : Option Addr) (n cap : Nat) (zs : List SLab) (hreach : zs.length ≤ 100) (va tm sr sq : Int) (w : World) (hI : Labs w.heap.size w (.slice a n cap) zs) (hc : checkR zs ≠ 0) :
    Calls Tryz.prog 66 #[.slice a n cap, numV va tm sr sq] w fun e w' => e = .returned (.int .i64 (sampR zs tm sr sq)) ∧ Below w.heap.size w w' := by
  obtain rfl : n = zs.length := hI.len
  have C := Lib.hid (fun W (hb : Below w.heap.size w W) => check_any a zs.length cap zs hreach W (labs_on hI hb))
  have T := Lib.hid (fun W => spanCheck_any tm W)
  have R : Hid (sampR zs tm sr sq = checkR zs) := by unfold Hid sampR; rw [if_pos hc]
  have c0 : (checkR zs != 0) = true := by simpa using hc
  unfold numV
  clear hI
  go_enter Tryz.func66, Tryz.ntmps66
  go_wp2_with fail
  refine (C.out _ (below_new (Below.refl _ _) _)).mono ?_
  rintro e w1 ⟨rfl, hb1⟩
  have DN : At w1 (w.heap.size) [.int .i64 va, .int .i64 tm, .int .i64 sr, .int .i64 sq] := by have h := (At.new (w) #[.int .i64 va, .int .i64 tm, .int .i64 sr, .int .i64 sq] 136).below hb1; simpa using h
  have B : Below w.heap.size w w1 := below_then (below_new (Below.refl _ _) (.cells #[.int .i64 va, .int .i64 tm, .int .i64 sr, .int .i64 sq] 136)) hb1
  clear hb1
  have aN0 := DN.cell 0 _ rfl
  have aN1 := DN.cell 1 _ rfl
  have aN2 := DN.cell 2 _ rfl
  have aN3 := DN.cell 3 _ rfl
  have nN := DN.lt
  go_wp2
  go_ret
  exact ⟨by rw [R.out]; rfl, B⟩
set_option maxHeartbeats 2000000 in
theorem check_none (a : Option Addr) (n cap : Nat) (zs : List SLab) (hreach : zs.length ≤ 100) (va tm sr sq : Int) (w : World) (hI : Labs w.heap.size w (.slice a n cap) zs) (hc : checkR zs = 0) (hz : zs.length = 0) :
    Calls Tryz.prog 66 #[.slice a n cap, numV va tm sr sq] w fun e w' => e = .returned (.int .i64 (sampR zs tm sr sq)) ∧ Below w.heap.size w w' := by
  obtain rfl : n = zs.length := hI.len
  have C := Lib.hid (fun W (hb : Below w.heap.size w W) => check_any a zs.length cap zs hreach W (labs_on hI hb))
  have T := Lib.hid (fun W => spanCheck_any tm W)
  have R : Hid (sampR zs tm sr sq = 5) := by unfold Hid sampR; rw [if_neg (by rw [hc]; simp), if_pos hz]
  have c0 : checkR zs = 0 := hc
  rw [c0] at C
  obtain rfl := List.eq_nil_of_length_eq_zero hz
  clear hz
  simp only [List.length_nil] at *
  unfold numV
  clear hI
  go_enter Tryz.func66, Tryz.ntmps66
  go_wp2_with fail
  refine (C.out _ (below_new (Below.refl _ _) _)).mono ?_
  rintro e w1 ⟨rfl, hb1⟩
  have DN : At w1 (w.heap.size) [.int .i64 va, .int .i64 tm, .int .i64 sr, .int .i64 sq] := by have h := (At.new (w) #[.int .i64 va, .int .i64 tm, .int .i64 sr, .int .i64 sq] 136).below hb1; simpa using h
  have B : Below w.heap.size w w1 := below_then (below_new (Below.refl _ _) (.cells #[.int .i64 va, .int .i64 tm, .int .i64 sr, .int .i64 sq] 136)) hb1
  clear hb1
  have aN0 := DN.cell 0 _ rfl
  have aN1 := DN.cell 1 _ rfl
  have aN2 := DN.cell 2 _ rfl
  have aN3 := DN.cell 3 _ rfl
  have nN := DN.lt
  go_wp2
  go_ret
  exact ⟨by rw [R.out]; rfl, B⟩
set_option maxHeartbeats 2000000 in
theorem check_late (a : Option Addr) (n cap : Nat) (zs : List SLab) (hreach : zs.length ≤ 100) (va tm sr sq : Int) (w : World) (hI : Labs w.heap.size w (.slice a n cap) zs) (hc : checkR zs = 0) (hz : zs.length ≠ 0) (ht : timeR tm ≠ 0) :
    Calls Tryz.prog 66 #[.slice a n cap, numV va tm sr sq] w fun e w' => e = .returned (.int .i64 (sampR zs tm sr sq)) ∧ Below w.heap.size w w' := by
  obtain rfl : n = zs.length := hI.len
  have C := Lib.hid (fun W (hb : Below w.heap.size w W) => check_any a zs.length cap zs hreach W (labs_on hI hb))
  have T := Lib.hid (fun W => spanCheck_any tm W)
  have R : Hid (sampR zs tm sr sq = timeR tm) := by unfold Hid sampR; rw [if_neg (by rw [hc]; simp), if_neg hz, if_pos ht]
  have c0 : checkR zs = 0 := hc
  rw [c0] at C
  have z0 : ((zs.length : Int) == 0) = false := by rw [beq_eq_false_iff_ne]; omega
  have t0 : (timeR tm != 0) = true := by simpa using ht
  unfold numV
  clear hI
  go_enter Tryz.func66, Tryz.ntmps66
  go_wp2_with fail
  refine (C.out _ (below_new (Below.refl _ _) _)).mono ?_
  rintro e w1 ⟨rfl, hb1⟩
  have DN : At w1 (w.heap.size) [.int .i64 va, .int .i64 tm, .int .i64 sr, .int .i64 sq] := by have h := (At.new (w) #[.int .i64 va, .int .i64 tm, .int .i64 sr, .int .i64 sq] 136).below hb1; simpa using h
  have B : Below w.heap.size w w1 := below_then (below_new (Below.refl _ _) (.cells #[.int .i64 va, .int .i64 tm, .int .i64 sr, .int .i64 sq] 136)) hb1
  clear hb1
  have aN0 := DN.cell 0 _ rfl
  have aN1 := DN.cell 1 _ rfl
  have aN2 := DN.cell 2 _ rfl
  have aN3 := DN.cell 3 _ rfl
  have nN := DN.lt
  go_wp2_with fail
  refine (T.out _).mono ?_
  rintro e w2 ⟨rfl, rfl⟩
  go_wp2
  go_ret
  exact ⟨by rw [R.out]; rfl, B⟩
set_option maxHeartbeats 2000000 in
theorem check_src0 (a : Option Addr) (n cap : Nat) (zs : List SLab) (hreach : zs.length ≤ 100) (va tm sr sq : Int) (w : World) (hI : Labs w.heap.size w (.slice a n cap) zs) (hc : checkR zs = 0) (hz : zs.length ≠ 0) (ht : timeR tm = 0) (h1 : sr < 1) :
    Calls Tryz.prog 66 #[.slice a n cap, numV va tm sr sq] w fun e w' => e = .returned (.int .i64 (sampR zs tm sr sq)) ∧ Below w.heap.size w w' := by
  obtain rfl : n = zs.length := hI.len
  have C := Lib.hid (fun W (hb : Below w.heap.size w W) => check_any a zs.length cap zs hreach W (labs_on hI hb))
  have T := Lib.hid (fun W => spanCheck_any tm W)
  have R : Hid (sampR zs tm sr sq = 1) := by unfold Hid sampR; rw [if_neg (by rw [hc]; simp), if_neg hz, if_neg (by rw [ht]; simp), if_pos (by omega)]
  have c0 : checkR zs = 0 := hc
  rw [c0] at C
  have z0 : ((zs.length : Int) == 0) = false := by rw [beq_eq_false_iff_ne]; omega
  rw [ht] at T
  unfold numV
  clear hI
  go_enter Tryz.func66, Tryz.ntmps66
  go_wp2_with fail
  refine (C.out _ (below_new (Below.refl _ _) _)).mono ?_
  rintro e w1 ⟨rfl, hb1⟩
  have DN : At w1 (w.heap.size) [.int .i64 va, .int .i64 tm, .int .i64 sr, .int .i64 sq] := by have h := (At.new (w) #[.int .i64 va, .int .i64 tm, .int .i64 sr, .int .i64 sq] 136).below hb1; simpa using h
  have B : Below w.heap.size w w1 := below_then (below_new (Below.refl _ _) (.cells #[.int .i64 va, .int .i64 tm, .int .i64 sr, .int .i64 sq] 136)) hb1
  clear hb1
  have aN0 := DN.cell 0 _ rfl
  have aN1 := DN.cell 1 _ rfl
  have aN2 := DN.cell 2 _ rfl
  have aN3 := DN.cell 3 _ rfl
  have nN := DN.lt
  go_wp2_with fail
  refine (T.out _).mono ?_
  rintro e w2 ⟨rfl, rfl⟩
  go_wp2
  go_ret
  exact ⟨by rw [R.out]; rfl, B⟩
set_option maxHeartbeats 2000000 in
theorem check_src1 (a : Option Addr) (n cap : Nat) (zs : List SLab) (hreach : zs.length ≤ 100) (va tm sr sq : Int) (w : World) (hI : Labs w.heap.size w (.slice a n cap) zs) (hc : checkR zs = 0) (hz : zs.length ≠ 0) (ht : timeR tm = 0) (h1 : ¬ sr < 1) (h2 : 16 < sr) :
    Calls Tryz.prog 66 #[.slice a n cap, numV va tm sr sq] w fun e w' => e = .returned (.int .i64 (sampR zs tm sr sq)) ∧ Below w.heap.size w w' := by
  obtain rfl : n = zs.length := hI.len
  have C := Lib.hid (fun W (hb : Below w.heap.size w W) => check_any a zs.length cap zs hreach W (labs_on hI hb))
  have T := Lib.hid (fun W => spanCheck_any tm W)
  have R : Hid (sampR zs tm sr sq = 1) := by unfold Hid sampR; rw [if_neg (by rw [hc]; simp), if_neg hz, if_neg (by rw [ht]; simp), if_pos (by omega)]
  have c0 : checkR zs = 0 := hc
  rw [c0] at C
  have z0 : ((zs.length : Int) == 0) = false := by rw [beq_eq_false_iff_ne]; omega
  rw [ht] at T
  unfold numV
  clear hI
  go_enter Tryz.func66, Tryz.ntmps66
  go_wp2_with fail
  refine (C.out _ (below_new (Below.refl _ _) _)).mono ?_
  rintro e w1 ⟨rfl, hb1⟩
  have DN : At w1 (w.heap.size) [.int .i64 va, .int .i64 tm, .int .i64 sr, .int .i64 sq] := by have h := (At.new (w) #[.int .i64 va, .int .i64 tm, .int .i64 sr, .int .i64 sq] 136).below hb1; simpa using h
  have B : Below w.heap.size w w1 := below_then (below_new (Below.refl _ _) (.cells #[.int .i64 va, .int .i64 tm, .int .i64 sr, .int .i64 sq] 136)) hb1
  clear hb1
  have aN0 := DN.cell 0 _ rfl
  have aN1 := DN.cell 1 _ rfl
  have aN2 := DN.cell 2 _ rfl
  have aN3 := DN.cell 3 _ rfl
  have nN := DN.lt
  go_wp2_with fail
  refine (T.out _).mono ?_
  rintro e w2 ⟨rfl, rfl⟩
  go_wp2
  go_ret
  exact ⟨by rw [R.out]; rfl, B⟩
set_option maxHeartbeats 2000000 in
theorem check_seq0 (a : Option Addr) (n cap : Nat) (zs : List SLab) (hreach : zs.length ≤ 100) (va tm sr sq : Int) (w : World) (hI : Labs w.heap.size w (.slice a n cap) zs) (hc : checkR zs = 0) (hz : zs.length ≠ 0) (ht : timeR tm = 0) (h1 : ¬ sr < 1) (h2 : ¬ 16 < sr) (h3 : sq < 1) :
    Calls Tryz.prog 66 #[.slice a n cap, numV va tm sr sq] w fun e w' => e = .returned (.int .i64 (sampR zs tm sr sq)) ∧ Below w.heap.size w w' := by
  obtain rfl : n = zs.length := hI.len
  have C := Lib.hid (fun W (hb : Below w.heap.size w W) => check_any a zs.length cap zs hreach W (labs_on hI hb))
  have T := Lib.hid (fun W => spanCheck_any tm W)
  have R : Hid (sampR zs tm sr sq = 1) := by unfold Hid sampR; rw [if_neg (by rw [hc]; simp), if_neg hz, if_neg (by rw [ht]; simp), if_pos (by omega)]
  have c0 : checkR zs = 0 := hc
  rw [c0] at C
  have z0 : ((zs.length : Int) == 0) = false := by rw [beq_eq_false_iff_ne]; omega
  rw [ht] at T
  unfold numV
  clear hI
  go_enter Tryz.func66, Tryz.ntmps66
  go_wp2_with fail
  refine (C.out _ (below_new (Below.refl _ _) _)).mono ?_
  rintro e w1 ⟨rfl, hb1⟩
  have DN : At w1 (w.heap.size) [.int .i64 va, .int .i64 tm, .int .i64 sr, .int .i64 sq] := by have h := (At.new (w) #[.int .i64 va, .int .i64 tm, .int .i64 sr, .int .i64 sq] 136).below hb1; simpa using h
  have B : Below w.heap.size w w1 := below_then (below_new (Below.refl _ _) (.cells #[.int .i64 va, .int .i64 tm, .int .i64 sr, .int .i64 sq] 136)) hb1
  clear hb1
  have aN0 := DN.cell 0 _ rfl
  have aN1 := DN.cell 1 _ rfl
  have aN2 := DN.cell 2 _ rfl
  have aN3 := DN.cell 3 _ rfl
  have nN := DN.lt
  go_wp2_with fail
  refine (T.out _).mono ?_
  rintro e w2 ⟨rfl, rfl⟩
  go_wp2
  go_ret
  exact ⟨by rw [R.out]; rfl, B⟩
set_option maxHeartbeats 2000000 in
theorem check_seq1 (a : Option Addr) (n cap : Nat) (zs : List SLab) (hreach : zs.length ≤ 100) (va tm sr sq : Int) (w : World) (hI : Labs w.heap.size w (.slice a n cap) zs) (hc : checkR zs = 0) (hz : zs.length ≠ 0) (ht : timeR tm = 0) (h1 : ¬ sr < 1) (h2 : ¬ 16 < sr) (h3 : ¬ sq < 1) (h4 : 9007199254740992 < sq) :
    Calls Tryz.prog 66 #[.slice a n cap, numV va tm sr sq] w fun e w' => e = .returned (.int .i64 (sampR zs tm sr sq)) ∧ Below w.heap.size w w' := by
  obtain rfl : n = zs.length := hI.len
  have C := Lib.hid (fun W (hb : Below w.heap.size w W) => check_any a zs.length cap zs hreach W (labs_on hI hb))
  have T := Lib.hid (fun W => spanCheck_any tm W)
  have R : Hid (sampR zs tm sr sq = 1) := by unfold Hid sampR; rw [if_neg (by rw [hc]; simp), if_neg hz, if_neg (by rw [ht]; simp), if_pos (by omega)]
  have c0 : checkR zs = 0 := hc
  rw [c0] at C
  have z0 : ((zs.length : Int) == 0) = false := by rw [beq_eq_false_iff_ne]; omega
  rw [ht] at T
  unfold numV
  clear hI
  go_enter Tryz.func66, Tryz.ntmps66
  go_wp2_with fail
  refine (C.out _ (below_new (Below.refl _ _) _)).mono ?_
  rintro e w1 ⟨rfl, hb1⟩
  have DN : At w1 (w.heap.size) [.int .i64 va, .int .i64 tm, .int .i64 sr, .int .i64 sq] := by have h := (At.new (w) #[.int .i64 va, .int .i64 tm, .int .i64 sr, .int .i64 sq] 136).below hb1; simpa using h
  have B : Below w.heap.size w w1 := below_then (below_new (Below.refl _ _) (.cells #[.int .i64 va, .int .i64 tm, .int .i64 sr, .int .i64 sq] 136)) hb1
  clear hb1
  have aN0 := DN.cell 0 _ rfl
  have aN1 := DN.cell 1 _ rfl
  have aN2 := DN.cell 2 _ rfl
  have aN3 := DN.cell 3 _ rfl
  have nN := DN.lt
  go_wp2_with fail
  refine (T.out _).mono ?_
  rintro e w2 ⟨rfl, rfl⟩
  go_wp2
  go_ret
  exact ⟨by rw [R.out]; rfl, B⟩
set_option maxHeartbeats 2000000 in
theorem check_good (a : Option Addr) (n cap : Nat) (zs : List SLab) (hreach : zs.length ≤ 100) (va tm sr sq : Int) (w : World) (hI : Labs w.heap.size w (.slice a n cap) zs) (hc : checkR zs = 0) (hz : zs.length ≠ 0) (ht : timeR tm = 0) (h1 : ¬ sr < 1) (h2 : ¬ 16 < sr) (h3 : ¬ sq < 1) (h4 : ¬ 9007199254740992 < sq) :
    Calls Tryz.prog 66 #[.slice a n cap, numV va tm sr sq] w fun e w' => e = .returned (.int .i64 (sampR zs tm sr sq)) ∧ Below w.heap.size w w' := by
  obtain rfl : n = zs.length := hI.len
  have C := Lib.hid (fun W (hb : Below w.heap.size w W) => check_any a zs.length cap zs hreach W (labs_on hI hb))
  have T := Lib.hid (fun W => spanCheck_any tm W)
  have R : Hid (sampR zs tm sr sq = 0) := by unfold Hid sampR; rw [if_neg (by rw [hc]; simp), if_neg hz, if_neg (by rw [ht]; simp), if_neg (by omega)]
  have c0 : checkR zs = 0 := hc
  rw [c0] at C
  have z0 : ((zs.length : Int) == 0) = false := by rw [beq_eq_false_iff_ne]; omega
  rw [ht] at T
  unfold numV
  clear hI
  go_enter Tryz.func66, Tryz.ntmps66
  go_wp2_with fail
  refine (C.out _ (below_new (Below.refl _ _) _)).mono ?_
  rintro e w1 ⟨rfl, hb1⟩
  have DN : At w1 (w.heap.size) [.int .i64 va, .int .i64 tm, .int .i64 sr, .int .i64 sq] := by have h := (At.new (w) #[.int .i64 va, .int .i64 tm, .int .i64 sr, .int .i64 sq] 136).below hb1; simpa using h
  have B : Below w.heap.size w w1 := below_then (below_new (Below.refl _ _) (.cells #[.int .i64 va, .int .i64 tm, .int .i64 sr, .int .i64 sq] 136)) hb1
  clear hb1
  have aN0 := DN.cell 0 _ rfl
  have aN1 := DN.cell 1 _ rfl
  have aN2 := DN.cell 2 _ rfl
  have aN3 := DN.cell 3 _ rfl
  have nN := DN.lt
  go_wp2_with fail
  refine (T.out _).mono ?_
  rintro e w2 ⟨rfl, rfl⟩
  go_wp2
  go_ret
  exact ⟨by rw [R.out]; rfl, B⟩
theorem samp_any (a : Option Addr) (n cap : Nat) (zs : List SLab) (hreach : zs.length ≤ 100) (va tm sr sq : Int) (w : World) (hI : Labs w.heap.size w (.slice a n cap) zs) :
    Calls Tryz.prog 66 #[.slice a n cap, numV va tm sr sq] w fun e w' => e = .returned (.int .i64 (sampR zs tm sr sq)) ∧ Below w.heap.size w w' := by
  by_cases hc : checkR zs = 0
  · by_cases hz : zs.length = 0
    · exact check_none a n cap zs hreach va tm sr sq w hI hc hz
    · by_cases ht : timeR tm = 0
      · by_cases h1 : sr < 1
        · exact check_src0 a n cap zs hreach va tm sr sq w hI hc hz ht h1
        · by_cases h2 : 16 < sr
          · exact check_src1 a n cap zs hreach va tm sr sq w hI hc hz ht h1 h2
          · by_cases h3 : sq < 1
            · exact check_seq0 a n cap zs hreach va tm sr sq w hI hc hz ht h1 h2 h3
            · by_cases h4 : 9007199254740992 < sq
              · exact check_seq1 a n cap zs hreach va tm sr sq w hI hc hz ht h1 h2 h3 h4
              · exact check_good a n cap zs hreach va tm sr sq w hI hc hz ht h1 h2 h3 h4
      · exact check_late a n cap zs hreach va tm sr sq w hI hc hz ht
  · exact check_bad a n cap zs hreach va tm sr sq w hI hc
set_option maxHeartbeats 4000000 in
theorem lcheck_any (a : Option Addr) (n cap : Nat) (zs : List SLab) (hreach : zs.length ≤ 100) (va tm sr sq : Int) (w : World) (hI : Labs w.heap.size w (.slice a n cap) zs) :
    Calls Tryz.prog 33 #[sampV (.slice a n cap) va tm sr sq] w fun e w' => e = .returned (.int .i64 (sampR zs tm sr sq)) ∧ Below w.heap.size w w' := by
  obtain rfl : n = zs.length := hI.len
  have NO := Lib.hid (fun W => numbersOf_any (.slice a zs.length cap) va tm sr sq W)
  have C := Lib.hid (fun W (hb : Below w.heap.size w W) => samp_any a zs.length cap zs hreach va tm sr sq W (labs_on hI hb))
  unfold numV sampV at *
  go_enter Tryz.func33, Tryz.ntmps33
  have DP : At ((w).alloc (.cells #[.slice a zs.length cap, .int .i64 va, .int .i64 tm, .int .i64 sr, .int .i64 sq] 33)) (w.heap.size) [.slice a zs.length cap, .int .i64 va, .int .i64 tm, .int .i64 sr, .int .i64 sq] := by have h := (At.new (w) #[.slice a zs.length cap, .int .i64 va, .int .i64 tm, .int .i64 sr, .int .i64 sq] 33); simpa using h
  have B : Below w.heap.size w ((w).alloc (.cells #[.slice a zs.length cap, .int .i64 va, .int .i64 tm, .int .i64 sr, .int .i64 sq] 33)) := below_new (Below.refl _ _) (.cells #[.slice a zs.length cap, .int .i64 va, .int .i64 tm, .int .i64 sr, .int .i64 sq] 33)
  go_wp2_with fail
  generalize (w).alloc (.cells #[.slice a zs.length cap, .int .i64 va, .int .i64 tm, .int .i64 sr, .int .i64 sq] 33) = W2 at *
  have aP0 := DP.cell 0 _ rfl
  have aP1 := DP.cell 1 _ rfl
  have aP2 := DP.cell 2 _ rfl
  have aP3 := DP.cell 3 _ rfl
  have aP4 := DP.cell 4 _ rfl
  have nP := DP.lt
  have LB : Labs W2.heap.size W2 (.slice a zs.length cap) zs := labs_on hI B
  refine wp_region_held_drew (S := fun w' => w'.cell? ⟨w.heap.size, 0, none⟩ = some (.slice a zs.length cap) ∧ w'.cell? ⟨w.heap.size, 1, none⟩ = some (.int .i64 va) ∧ w'.cell? ⟨w.heap.size, 2, none⟩ = some (.int .i64 tm) ∧ w'.cell? ⟨w.heap.size, 3, none⟩ = some (.int .i64 sr) ∧ w'.cell? ⟨w.heap.size, 4, none⟩ = some (.int .i64 sq) ∧ Below w.heap.size w w') (by kernel_rfl) ?_ (fun hS => ?_)
  · (try dsimp only)
    (repeat' apply And.intro) <;> first | go_cell | exact B.drew
  refine' wpAnyH_take (i := 0) (oi := ?oiT0) (v := ?vT0) ?hiT0 (by kernel_rfl) (by kernel_rfl) (by kernel_rfl) ?hQT0 ?hyT0 hS ?restT0
  case hiT0 =>
    simp only [List.getElem?_toArray, List.getElem?_cons_succ, List.getElem?_cons_zero]
    exact rfl
  case hQT0 => exact fun _ _ _ h => h
  case hyT0 =>
    refine Or.inl ⟨by rfl, ?_⟩
    intro w hSw
    (try dsimp only at hSw)
    go_simp
    (try with_reducible rfl)
  (try simp only [Act.put, List.setIfInBounds_toArray, List.set_cons_zero, List.set_cons_succ])
  refine' wpAnyH_take (i := 1) (oi := ?oiT1) (v := ?vT1) ?hiT1 (by kernel_rfl) (by kernel_rfl) (by kernel_rfl) ?hQT1 ?hyT1 hS ?restT1
  case hiT1 =>
    simp only [List.getElem?_toArray, List.getElem?_cons_succ, List.getElem?_cons_zero]
    exact rfl
  case hQT1 => exact fun _ _ _ h => h
  case hyT1 =>
    refine Or.inl ⟨by rfl, ?_⟩
    intro w hSw
    (try dsimp only at hSw)
    go_simp
    (try with_reducible rfl)
  (try simp only [Act.put, List.setIfInBounds_toArray, List.set_cons_zero, List.set_cons_succ])
  refine' wpAnyH_take (i := 2) (oi := ?oiT2) (v := ?vT2) ?hiT2 (by kernel_rfl) (by kernel_rfl) (by kernel_rfl) ?hQT2 ?hyT2 hS ?restT2
  case hiT2 =>
    simp only [List.getElem?_toArray, List.getElem?_cons_succ, List.getElem?_cons_zero]
    exact rfl
  case hQT2 => exact fun _ _ _ h => h
  case hyT2 =>
    refine Or.inl ⟨by rfl, ?_⟩
    intro w hSw
    (try dsimp only at hSw)
    go_simp
    (try with_reducible rfl)
  (try simp only [Act.put, List.setIfInBounds_toArray, List.set_cons_zero, List.set_cons_succ])
  refine wpAnyH_ready (rs := [3]) (by kernel_rfl) (by simp) ?_
  refine' AllReadyH.cons (o := ?ooC3) ?hoC3 (fun K hK => ?stepC3) AllReadyH.nil
  case hoC3 =>
    simp only [List.getElem?_toArray, List.getElem?_cons_succ, List.getElem?_cons_zero]
    exact rfl
  go_simp
  go_at_call 67
  refine (NO.out _).mono ?_
  rintro e w1 ⟨rfl, hb1⟩
  go_wp2_with fail
  refine hK.out _ _ ?_ (fun hS => ?_)
  · (try dsimp only)
    go_split_ands
    (repeat' apply And.intro) <;> first | (refine cell_later hb1 ?_; with_reducible assumption) | (refine below_then ?_ hb1; with_reducible assumption)
  clear hK K hb1
  (try simp only [Act.put, List.setIfInBounds_toArray, List.set_cons_zero, List.set_cons_succ])
  refine wpAnyH_ready (rs := [4]) (by kernel_rfl) (by simp) ?_
  refine' AllReadyH.cons (o := ?oo4) ?ho4 (fun K hK => ?st4) AllReadyH.nil
  case ho4 =>
    simp only [List.getElem?_toArray, List.getElem?_cons_succ, List.getElem?_cons_zero]
    exact rfl
  go_simp
  go_at_call 66
  refine (C.out _ hS.2.2.2.2.2).mono ?_
  rintro e w3 ⟨rfl, hb3⟩
  go_wp2_with fail
  refine hK.out _ _ ?_ (fun hS => ?_)
  · (try dsimp only)
    go_split_ands
    (repeat' apply And.intro) <;> first | (refine cell_later hb3 ?_; with_reducible assumption) | (refine below_then ?_ hb3; with_reducible assumption)
  clear hK K hb3
  (try simp only [Act.put, List.setIfInBounds_toArray, List.set_cons_zero, List.set_cons_succ])
  refine' wpAnyH_take (i := 5) (oi := ?oi5) (v := ?v5) ?hi5 (by kernel_rfl) (by kernel_rfl) (by kernel_rfl) ?hQ5 ?hy5 hS ?rest5
  case hi5 =>
    simp only [List.getElem?_toArray, List.getElem?_cons_succ, List.getElem?_cons_zero]
    exact rfl
  case hQ5 => exact fun _ _ _ h => h
  case hy5 =>
    refine Or.inl ⟨by rfl, ?_⟩
    intro w hSw
    (try dsimp only at hSw)
    go_simp
    (try with_reducible rfl)
  (try simp only [Act.put, List.setIfInBounds_toArray, List.set_cons_zero, List.set_cons_succ])
  refine wpAnyH_done (by kernel_rfl) ?_ _
  have hB := hS.2.2.2.2.2
  clear hS
  go_wp2
  go_ret
  exact ⟨rfl, hB⟩
theorem own_laterI {β : Type} {B B' : Nat} {J : β → World → Prop} (h : OwnFrom B J) (hB : B ≤ B') : OwnFrom B' J := fun s W W' row hs hg hr => h s W W' row hs hg (fun r e => ⟨Nat.le_trans hB (hr r e).1, (hr r e).2⟩)
set_option maxHeartbeats 8000000 in
theorem items_stops (Bs n₀ : Nat) (sv : Value) (zs : List SLab) (hreach : zs.length ≤ 1000000) (w : World) (hn₀ : n₀ ≤ w.heap.size) (h1 : Bs < n₀)
    (hs : w.cell? ⟨Bs, 0, none⟩ = some sv) (hL : Labs n₀ w sv zs) :
    SeqStopsJ 5 Fence.wide 8 Tryz.prog 112 #[.pointer (some ⟨Bs, 0, none⟩)] (fun x : SLab => #[itmV (labI x.1)]) n₀ (fun ys => ys = zs) (fun pre => pre <+: zs) zs.length w := by
  intro l J Jx W hW hJ hJx hY h0
  have hsz0 : n₀ ≤ W.heap.size := Nat.le_trans hn₀ hW.size
  have hw0 : Below n₀ w W := hW.mono hn₀
  have hs := (hw0.cell (p := ⟨Bs, 0, none⟩) h1).trans hs
  have hL := hL.below hw0
  clear hw0 hW
  refine callsIn_of_wp_marks Tryz.func112 rfl trivial ?_ rfl
  simp only [Tryz.ntmps112, List.size_toArray, List.length_cons, List.length_nil, Nat.reduceAdd, Nat.reduceSub, Array.replicate_succ, Array.replicate_zero, List.push_toArray, List.append_toArray, List.nil_append, List.cons_append]
  have hsh : ∃ a len cap, sv = .slice a len cap := by
    rcases hL with ⟨⟨_, _, rfl⟩, _⟩ | ⟨b, off, cap, rfl, _⟩
    · exact ⟨_, _, _, rfl⟩
    · exact ⟨_, _, _, rfl⟩
  obtain ⟨a, len, cap, rfl⟩ := hsh
  have H0 := Lib.hid h0
  have HY := Lib.hid hY
  clear h0 hY
  have ba : Below n₀ W (W.alloc (.cells #[.func (.yield l) #[] #[]] 207)) := (Below.refl n₀ W).alloc hsz0 _
  have hs1 := (ba.cell (p := ⟨Bs, 0, none⟩) h1).trans hs
  clear ba
  gi_wp2
  refine ⟨trivial, (values_in Fence.wide 7 trivial rfl _ _ _ _).mono ?_⟩
  rintro e w1 ⟨rfl, rfl⟩
  gi_wp2
  obtain ⟨W0, hW0⟩ : ∃ W0, ((W.alloc (.cells #[.func (.yield l) #[] #[]] 207)).alloc (.cells #[.slice a len cap] 24)) = W0 := ⟨_, rfl⟩
  have hlp : Below W.heap.size W W0 := by rw [← hW0]; go_grown
  have hsz : W0.heap.size = W.heap.size + 2 := by rw [← hW0]; simp
  have by0 : Boxed W0 W.heap.size 207 (.func (.yield l) #[] #[]) := by
    rw [← hW0]
    exact (Boxed.new W 207 (.func (.yield l) #[] #[])).alloc _
  have bs0 : W0.cell? ⟨W.heap.size + 1, 0, none⟩ = some (.slice a len cap) := by
    rw [← hW0]
    have h := Boxed.new (W.alloc (.cells #[.func (.yield l) #[] #[]] 207)) 24 (.slice a len cap)
    rw [World.size_alloc] at h
    exact h.cell
  have hj0 : J [] W0 := by rw [← hW0]; exact hJ.alloc _ (hJ.alloc _ H0.out)
  have h00 : Below n₀ W W0 := hlp.mono hsz0
  have hL0 := hL.below h00
  rw [hW0]
  clear hs1 hs hL H0 hW0
  refine wpIn_rangeFunc_ownH (F := Fence.wide) (n := 8) rfl (by omega) (gf := 143) (lb := #[.pointer (some ⟨W.heap.size + 1, 0, none⟩)]) rfl trivial (enters_of Tryz.func143 (by kernel_rfl) rfl)
    (encs := fun x => #[labV x.1]) (Kp := Below n₀) (values_stops Fence.wide (8 - 1) trivial rfl (by omega) (W.heap.size + 1) n₀ (.slice a len cap) zs (by omega) W0 (by omega) (by omega) bs0 hL0) belowK_t (belowK_b (by omega)) (Below.refl _ _) (fun _ => rfl)
    (fun pre V => J pre V ∧ Boxed V W.heap.size 207 (.func (.yield l) #[] #[]) ∧ Below n₀ W0 V)
    (fun c pre V => c = .ret ∧ Jx pre V)
    (OwnFrom.and (own_laterI hJ (by omega)) (OwnFrom.and (Own.from (boxed_own W.heap.size 207 (fun _ => .func (.yield l) #[] #[])) _) (ownFrom_below (by omega) (by omega))))
    (fun c => OwnFrom.and (ownFrom_pure _ _) (own_laterI hJx (by omega)))
    ⟨hj0, by0, Below.refl _ _⟩
    (fun x a' V => ∃ Bx, W.heap.size + 1 < Bx ∧ Blk V Bx #[.string ⟨x.1.1.toArray⟩, .string ⟨x.1.2.toArray⟩] 78 ∧ a' = { tmps := #[.func (.yield l) #[] #[], .pointer (some ⟨Bs, 0, none⟩), .pointer (some ⟨W.heap.size, 0, none⟩), .pointer (some ⟨Bx, 0, none⟩), .slice a len cap, .func (.func 143) #[] #[.pointer (some ⟨W.heap.size + 1, 0, none⟩)], .agg #[.string ⟨x.1.1.toArray⟩, .string ⟨x.1.2.toArray⟩], undef, undef, undef, undef, undef, undef, undef, undef], defers := [] })
    (fun x a' => ?ax) ?assign ?body ?done ?stop
  case ax => exact fun s X Y row ⟨Bx, q1, q2, q3⟩ hg hr => ⟨Bx, q1, (blk_own (β := Unit) Bx _ _).from _ () X Y row q2 hg hr, q3⟩
  case assign =>
    rintro l' pre x V K ⟨hj, hy, hB⟩ hK
    simp only [labV]
    have hVs : W0.heap.size ≤ V.heap.size := hB.size
    have HJ := Lib.hid hj
    clear hj
    gi_wp2
    exact hK _ _ ((KeepsOthers.alloc _ _).from _) ((Below.refl _ V).alloc (by omega) _) ⟨hJ.alloc _ HJ.out, hy.alloc _, hB.alloc (by omega) _⟩ ⟨V.heap.size, by omega, heap_alloc_new V _, rfl⟩
  case body =>
    rintro l' pre x a' V hl ⟨r, hr⟩ ⟨hj, hy, hB⟩ ⟨Bx, hBx, bX, rfl⟩ hlen
    have hVs : W0.heap.size ≤ V.heap.size := hB.size
    obtain ⟨⟨xn, xv⟩, hx⟩ := x
    dsimp only at bX
    have cx0 := blk_cell (j := 0) bX rfl
    have cx1 := blk_cell (j := 1) bX rfl
    have cy := hy.cell
    obtain ⟨fn, tmps, assign, body, hy', hR⟩ := yield_inRound l' (yield_depth (m' := 5) (HY.out pre ⟨(xn, xv), hx⟩ V hj hlen))
    dsimp only [itmV, labI] at hy'
    have hwV : W.heap.size ≤ V.heap.size := by omega
    clear hj
    gi_wp2
    refine hR.mono ?_
    rintro e W3 (⟨rfl, hJ3, hb3, hk3⟩ | ⟨rfl, hJx3, hk3⟩)
    · have HJ3 := Lib.hid hJ3
      have y3 : Boxed W3 W.heap.size 207 (.func (.yield l) #[] #[]) := hk3.same _ _ (Nat.le_refl _) hy (fun c fz e => by cases e)
      have k3 := hk3.mono (Nat.le_trans (Nat.le_add_right _ 2) (Nat.le_of_eq hsz.symm))
      have HK3 := Lib.hid k3
      clear hJ3 hR hk3
      gi_wp2
      exact ⟨HK3.out.from, hb3, HJ3.out, y3, hB.trans hb3⟩
    · have HJ3 := Lib.hid hJx3
      have k3 := hk3.mono (Nat.le_trans (Nat.le_add_right _ 2) (Nat.le_of_eq hsz.symm))
      have HK3 := Lib.hid k3
      clear hJx3 hR hk3
      gi_wp2
      exact ⟨HK3.out.from, rfl, HJ3.out⟩
  case done =>
    rintro D ys V hD rfl ⟨hj, hy, hB⟩ hK
    have HJ := Lib.hid hj
    clear hj
    gi_wp2
    refine ⟨by simp, .inl ⟨_, _, rfl, run_takeDeferred hK, ?_⟩⟩
    exact ⟨_, results_none rfl _ _ _, ⟨_, rfl⟩, .inl ⟨_, rfl, hJ.putObj _ HJ.out (by omega) hK rfl⟩⟩
  case stop =>
    rintro D c pre V hD hpre ⟨rfl, hj⟩ hK
    have HJ := Lib.hid hj
    clear hj
    gi_wp2
    refine ⟨by simp, .inl ⟨_, _, rfl, run_takeDeferred hK, ?_⟩⟩
    exact ⟨_, results_none rfl _ _ _, ⟨_, rfl⟩, .inr ⟨_, hpre, hJx.putObj _ HJ.out (by omega) hK rfl⟩⟩
def quoR (l : List UInt8) : List UInt8 := 34 :: escR l ++ [34]
set_option maxHeartbeats 4000000 in
theorem quote_at (s : ByteArray) (l : List UInt8) (hud : s.data.toList = l) (hl : l.length ≤ 100000) (w : World) :
    Calls Tryz.prog 111 #[.string s] w fun e w' => e = .returned (.string ⟨(quoR l).toArray⟩) ∧ Below w.heap.size w w' := by
  obtain ⟨i0, hi, hz0, hz1, hz2⟩ := info_parts info_u8
  have HI := Lib.hid hi
  have HZ := Lib.hid hz0
  have HZ1 := Lib.hid hz1
  have HZ2 := Lib.hid hz2
  have hsz : s.size = l.length := by rw [Lib.size_eq, hud]
  have HU := Lib.hid hud
  clear hi hz0 hz1 hz2 hud
  have E0 : EW w w.heap.size (.slice (some ⟨w.heap.size, 0, none⟩) 1 1) [34] (w.alloc (.cells #[.int .u8 34] 5)) :=
    ⟨⟨rfl, .inr ⟨w.heap.size, 1, #[.int .u8 34], rfl, Nat.le_refl _, heap_alloc_new w _, Nat.le_refl _, by unfold maxLen; omega, rfl, rfl⟩⟩, below_cells _, (Lib.OthersKept.refl _ _ _).alloc _, by simp⟩
  have H := Lib.hid E0
  clear E0
  go_enter Tryz.func111, Tryz.ntmps111
  go_wp2
  go_loopw [3, 8] (fun v1 i wr => ∃ k : Nat, k ≤ l.length ∧ i = .int .i64 (k : Int) ∧ EW w w.heap.size v1 (34 :: escR (l.take k)) wr) (fun _ i _ => l.length - (RowKit.intOf i).toNat)
  case atStart => exact ⟨0, Nat.zero_le _, rfl, by simpa [escR] using H.out⟩
  case round =>
    obtain ⟨k, hk, rfl, hE⟩ := hrel
    have E := Lib.hid hE
    clear hE
    by_cases hlt : k < l.length
    · have hi : k < s.size := by omega
      obtain ⟨c, hc⟩ : ∃ c : UInt8, s[k]'hi = c := ⟨_, rfl⟩
      have hcl : l[k]? = some c := by rw [← HU.out, ← hc]; exact Lib.data_getElem? s k hi
      have hsn : escR (l.take (k + 1)) = escR (l.take k) ++ escC c := by
        obtain ⟨hn, he⟩ := List.getElem?_eq_some_iff.1 hcl
        rw [List.take_succ_eq_append_getElem hn, he, escR_snoc]
      have hlen := escR_len (l.take k)
      rw [List.length_take] at hlen
      have h0 : (0 : Int) ≤ (k : Int) := by omega
      have h1 : (k : Int) < (l.length : Int) := by omega
      have h2 : (k : Int) < (s.size : Int) := by omega
      have SN := Lib.hid hsn
      clear hsn hcl
      obtain ⟨R, hR⟩ : ∃ R, escR (l.take k) = R := ⟨_, rfl⟩
      rw [hR] at SN E hlen
      clear hR
      obtain ⟨T, hT⟩ : ∃ T, 34 :: R = T := ⟨_, rfl⟩
      have hRl : T.length ≤ 300000 := by rw [← hT, List.length_cons]; omega
      rw [hT] at E
      have TT := Lib.hid hT
      clear hT
      by_cases q : c.toNat = 34 ∨ c.toNat = 92
      · have EC : Hid (escC c = [92, c]) := by unfold Hid escC; rw [if_pos q]
        rcases q with q | q
        · obtain rfl : c = 34 := UInt8.toNat.inj q
          go_wp2_with (at_builtin; refine wpList_append_own _ rfl (.tmp 21) (.tmp 22) 204 rfl w.heap.size 5 i0 (.int .u8 0) 1 1 Tryz.underlying204 HI.out HZ.out HZ1.out HZ2.out rfl (by decide) _ _ _ rfl (E.out.own.alloc _) _ 1 1 [.int .u8 92] rfl rfl ?pa1 ?pa2 ?pa3 ?pa4 ?pa5 ?_)
          case pa1 => intro j u hj; match j, hj with | 0, hj => simp at hj; subst hj; rw [Addr.add_lit]; simp
          case pa2 => intro u hu; simp at hu; subst hu; rfl
          case pa3 => unfold maxLen; omega
          case pa4 => omega
          case pa5 => have := E.out.ge; simp; omega
          intro vpa wpa hownpa hgrowpa _
          have Fp := E.out.app (X := [92]) _ hownpa hgrowpa
          clear hownpa hgrowpa
          obtain ⟨T2, hT2⟩ : ∃ T2, T ++ [92] = T2 := ⟨_, rfl⟩
          have hT2l : T2.length ≤ 300001 := by rw [← hT2, List.length_append]; simp only [List.length_cons, List.length_nil]; omega
          rw [hT2] at Fp
          have TT2 := Lib.hid hT2
          have Fp := Lib.hid Fp
          clear hT2
          go_wp2_with (at_builtin; refine wpList_append_own _ rfl (.tmp 24) (.tmp 28) 204 rfl w.heap.size 5 i0 (.int .u8 0) 1 1 Tryz.underlying204 HI.out HZ.out HZ1.out HZ2.out rfl (by decide) _ _ _ rfl (Fp.out.own.alloc _) _ 1 1 [.int .u8 34] rfl rfl ?pb1 ?pb2 ?pb3 ?pb4 ?pb5 ?_)
          case pb1 => intro j u hj; match j, hj with | 0, hj => simp at hj; subst hj; rw [Addr.add_lit]; simp
          case pb2 => intro u hu; simp at hu; subst hu; rfl
          case pb3 => unfold maxLen; omega
          case pb4 => omega
          case pb5 => have := Fp.out.ge; simp; omega
          intro vpb wpb hownpb hgrowpb _
          have Gp := Lib.hid (Fp.out.app (X := [34]) _ hownpb hgrowpb)
          clear hownpb hgrowpb
          go_wp2
          go_roundw
          case rel => exact ⟨k + 1, by omega, by go_num, by rw [SN.out, EC.out, ← List.cons_append, TT.out]; have := Gp.out; rw [← TT2.out, List.append_assoc] at this; exact this⟩
          case measure => simp [RowKit.intOf]; omega
        · obtain rfl : c = 92 := UInt8.toNat.inj q
          go_wp2_with (at_builtin; refine wpList_append_own _ rfl (.tmp 21) (.tmp 22) 204 rfl w.heap.size 5 i0 (.int .u8 0) 1 1 Tryz.underlying204 HI.out HZ.out HZ1.out HZ2.out rfl (by decide) _ _ _ rfl (E.out.own.alloc _) _ 1 1 [.int .u8 92] rfl rfl ?qa1 ?qa2 ?qa3 ?qa4 ?qa5 ?_)
          case qa1 => intro j u hj; match j, hj with | 0, hj => simp at hj; subst hj; rw [Addr.add_lit]; simp
          case qa2 => intro u hu; simp at hu; subst hu; rfl
          case qa3 => unfold maxLen; omega
          case qa4 => omega
          case qa5 => have := E.out.ge; simp; omega
          intro vqa wqa hownqa hgrowqa _
          have Fq := E.out.app (X := [92]) _ hownqa hgrowqa
          clear hownqa hgrowqa
          obtain ⟨T2, hT2⟩ : ∃ T2, T ++ [92] = T2 := ⟨_, rfl⟩
          have hT2l : T2.length ≤ 300001 := by rw [← hT2, List.length_append]; simp only [List.length_cons, List.length_nil]; omega
          rw [hT2] at Fq
          have TT2 := Lib.hid hT2
          have Fq := Lib.hid Fq
          clear hT2
          go_wp2_with (at_builtin; refine wpList_append_own _ rfl (.tmp 24) (.tmp 28) 204 rfl w.heap.size 5 i0 (.int .u8 0) 1 1 Tryz.underlying204 HI.out HZ.out HZ1.out HZ2.out rfl (by decide) _ _ _ rfl (Fq.out.own.alloc _) _ 1 1 [.int .u8 92] rfl rfl ?qb1 ?qb2 ?qb3 ?qb4 ?qb5 ?_)
          case qb1 => intro j u hj; match j, hj with | 0, hj => simp at hj; subst hj; rw [Addr.add_lit]; simp
          case qb2 => intro u hu; simp at hu; subst hu; rfl
          case qb3 => unfold maxLen; omega
          case qb4 => omega
          case qb5 => have := Fq.out.ge; simp; omega
          intro vqb wqb hownqb hgrowqb _
          have Gq := Lib.hid (Fq.out.app (X := [92]) _ hownqb hgrowqb)
          clear hownqb hgrowqb
          go_wp2
          go_roundw
          case rel => exact ⟨k + 1, by omega, by go_num, by rw [SN.out, EC.out, ← List.cons_append, TT.out]; have := Gq.out; rw [← TT2.out, List.append_assoc] at this; exact this⟩
          case measure => simp [RowKit.intOf]; omega
      · have EC : Hid (escC c = [c]) := by unfold Hid escC; rw [if_neg q]
        have n1 : ((c.toNat : Int) == 34) = false := by rw [beq_eq_false_iff_ne]; omega
        have n2 : ((c.toNat : Int) == 92) = false := by rw [beq_eq_false_iff_ne]; omega
        go_wp2_with (at_builtin; refine wpList_append_own _ rfl (.tmp 24) (.tmp 28) 204 rfl w.heap.size 5 i0 (.int .u8 0) 1 1 Tryz.underlying204 HI.out HZ.out HZ1.out HZ2.out rfl (by decide) _ _ _ rfl (E.out.own.alloc _) _ 1 1 [.int .u8 (c.toNat : Int)] rfl rfl ?rb1 ?rb2 ?rb3 ?rb4 ?rb5 ?_)
        case rb1 => intro j u hj; match j, hj with | 0, hj => simp at hj; subst hj; rw [Addr.add_lit]; simp
        case rb2 => intro u hu; simp at hu; subst hu; rfl
        case rb3 => unfold maxLen; omega
        case rb4 => omega
        case rb5 => have := E.out.ge; simp; omega
        intro vrb wrb hownrb hgrowrb _
        have Gr := Lib.hid (E.out.app (X := [c]) _ hownrb hgrowrb)
        clear hownrb hgrowrb
        go_wp2
        go_roundw
        case rel => exact ⟨k + 1, by omega, by go_num, by rw [SN.out, EC.out, ← List.cons_append, TT.out]; have := Gr.out; simpa using this⟩
        case measure => simp [RowKit.intOf]; omega
    · obtain rfl : k = l.length := by omega
      have h1 : ¬ (l.length : Int) < (s.size : Int) := by omega
      rw [List.take_length] at E
      have hlen := escR_len l
      obtain ⟨T, hT⟩ : ∃ T, 34 :: escR l = T := ⟨_, rfl⟩
      rw [hT] at E
      have hTl : T.length ≤ 300000 := by rw [← hT, List.length_cons]; omega
      have TT := Lib.hid hT
      clear hT hlen
      go_wp2_with (at_builtin; refine wpList_append_own _ rfl (.tmp 31) (.tmp 32) 204 rfl w.heap.size 5 i0 (.int .u8 0) 1 1 Tryz.underlying204 HI.out HZ.out HZ1.out HZ2.out rfl (by decide) _ _ _ rfl (E.out.own.alloc _) _ 1 1 [.int .u8 34] rfl rfl ?sa1 ?sa2 ?sa3 ?sa4 ?sa5 ?_)
      case sa2 => first | rfl | (intro u hu; simp at hu; subst hu; rfl)
      case sa3 => unfold maxLen; omega
      case sa4 => omega
      case sa5 => have := E.out.ge; simp; omega
      intro vs ws howns hgrows _
      have Gs := E.out.app (X := [34]) _ howns hgrows
      have hC := str_of_row (P := Tryz.prog) (src := 204) (dst := 9) Gs.own Tryz.underlying204 Tryz.underlying5 Tryz.underlying9
      have hB := Gs.bel
      clear howns hgrows Gs
      go_wp2
      go_ret
      exact ⟨by rw [← TT.out]; rfl, hB⟩
theorem quote_any (l : List UInt8) (hl : l.length ≤ 100000) (w : World) :
    Calls Tryz.prog 111 #[.string ⟨l.toArray⟩] w fun e w' => e = .returned (.string ⟨(quoR l).toArray⟩) ∧ Below w.heap.size w w' := quote_at ⟨l.toArray⟩ l rfl hl w
theorem quo_len (l : List UInt8) : (quoR l).length ≤ 2 * l.length + 2 := by
  have := escR_len l
  unfold quoR
  simp only [List.length_append, List.length_cons, List.length_nil]
  omega
/-- an item as it is written -/
def itT (x : Itm) : List UInt8 := x.1 ++ x.2.1 ++ quoR x.2.2
def iStep (s : List UInt8 × List UInt8) (x : SItm) : List UInt8 × List UInt8 := (s.1 ++ s.2 ++ itT x.1, [44])
/-- the text of the items gone through, and what stands ahead of the next one -/
def runI (pre : List SItm) : List UInt8 × List UInt8 := pre.foldl iStep ([123], [])
theorem runI_snoc (pre : List SItm) (x : SItm) : runI (pre ++ [x]) = ((runI pre).1 ++ (runI pre).2 ++ itT x.1, [44]) := by
  unfold runI; rw [List.foldl_append]; rfl
theorem itT_len (x : SItm) : (itT x.1).length ≤ 4002 := by
  unfold itT
  have h := quo_len x.1.2.2
  have h0 := x.2
  unfold ShortI at h0
  simp only [List.length_append]
  omega
theorem runI_len (pre : List SItm) : (runI pre).1.length ≤ 1 + 4003 * pre.length ∧ (runI pre).2.length ≤ 1 := by
  have g : ∀ (l : List SItm) (s : List UInt8 × List UInt8), s.2.length ≤ 1 → (l.foldl iStep s).1.length ≤ s.1.length + 4003 * l.length ∧ (l.foldl iStep s).2.length ≤ 1 := by
    intro l
    induction l with
    | nil => intro s h2; exact ⟨by simp, h2⟩
    | cons x t ih =>
      intro s h2
      rw [List.foldl_cons]
      obtain ⟨a, b⟩ := ih (iStep s x) (by unfold iStep; simp)
      have hl := itT_len x
      have e : (iStep s x).1.length ≤ s.1.length + 4003 := by unfold iStep; simp only [List.length_append]; omega
      rw [List.length_cons]
      exact ⟨by omega, b⟩
  have := g pre ([123], []) (by simp)
  simpa [runI] using this
theorem runI_pos (pre : List SItm) : 1 ≤ (runI pre).1.length := by
  have g : ∀ (l : List SItm) (s : List UInt8 × List UInt8), s.1.length ≤ (l.foldl iStep s).1.length := by
    intro l
    induction l with
    | nil => intro s; exact Nat.le_refl _
    | cons x t ih =>
      intro s
      rw [List.foldl_cons]
      exact Nat.le_trans (by unfold iStep; simp only [List.length_append]; omega) (ih (iStep s x))
  exact g pre ([123], [])
/-- in a round that began at W0: the boxes, the row of bytes, what is kept -/
structure PT (w W0 : World) (Bw : Nat) (W : World) (vb v : Value) (S ah : List UInt8) (Bx : Nat) (cs : Array Value) : Prop where
  bt : Boxed W (w.heap.size + 1) 204 vb
  ba : Boxed W (w.heap.size + 1 + 1) 9 (.string ⟨ah.toArray⟩)
  bx : Blk W Bx cs 205
  own : W.ownsRow w.heap.size 5 1 v S.length (Lib.byteCells S)
  bel : Below w.heap.size w W
  bel0 : Below w.heap.size W0 W
  ko : KeepsT 5 Bw W0 W
theorem PT.grow {w W0 W W1 : World} {Bw : Nat} {vb v v' : Value} {S S' ah : List UInt8} {Bx n' : Nat} {cs : Array Value} (h : PT w W0 Bw W vb v S ah Bx cs) (g : W.grownBy W1 v.ownBlock) (own : W1.ownsRow w.heap.size 5 1 v' n' (Lib.byteCells S')) (hn : n' = S'.length) : PT w W0 Bw W1 vb v' S' ah Bx cs := by
  subst hn
  have hk : ∀ i, v.ownBlock = some i → w.heap.size ≤ i := by
    intro i e
    rcases h.own.2 with ⟨rfl, _⟩ | ⟨gg, cap, cur, rfl, hb, hgb, _⟩
    · simp [Value.ownBlock] at e
    · obtain rfl : gg = i := by simpa [Value.ownBlock] using e
      exact hb
  refine ⟨h.bt.kept g (h.bt.not_row (by decide) h.own), h.ba.kept g (h.ba.not_row (by decide) h.own), heap_grow h.own g (by decide) h.bx, own, h.bel.grown g h.bel.size hk, h.bel0.grown g (by have := h.bt.lt; omega) hk, h.ko.trans (KeepsT.grown g (fun r e => ?_))⟩
  rcases h.own.2 with ⟨rfl, _⟩ | ⟨gg, cap, cur, rfl, _, hgb, _⟩
  · simp [Value.ownBlock] at e
  · obtain rfl : gg = r := by simpa [Value.ownBlock] using e
    exact ⟨_, _, hgb⟩
theorem PT.alloc {w W0 W : World} {Bw : Nat} {vb v : Value} {S ah : List UInt8} {Bx : Nat} {cs : Array Value} (h : PT w W0 Bw W vb v S ah Bx cs) (o : Obj) : PT w W0 Bw (W.alloc o) vb v S ah Bx cs :=
  ⟨h.bt.alloc o, h.ba.alloc o, (Below.heap_alloc W o Bx (Array.getElem?_eq_some_iff.1 h.bx).1).trans h.bx, h.own.alloc o, h.bel.alloc h.bel.size o, h.bel0.alloc (by have := h.bt.lt; omega) o, h.ko.trans (KeepsT.alloc _ _ _ _)⟩
theorem PT.store {w W0 W : World} {Bw : Nat} {vb v : Value} {S ah : List UInt8} {Bx : Nat} {cs : Array Value} (h : PT w W0 Bw W vb v S ah Bx cs) (hB : w.heap.size + 1 + 1 < Bx) (hBw : w.heap.size + 1 < Bw) : PT w W0 Bw (W.setCell ⟨w.heap.size + 1, 0, none⟩ v) v v S ah Bx cs :=
  ⟨h.bt.set v, h.ba.other (by omega) _, by rw [Blk, Below.heap_setCell _ _ _ _ (by show Bx ≠ w.heap.size + 1; omega)]; exact h.bx, ownsRow_setCell_other h.own (h.bt.not_row (by decide) h.own).symm _, h.bel.setCell (by simp) _, h.bel0.setCell (by simp) _, h.ko.trans (KeepsT.setCell _ hBw)⟩
theorem PT.below {w W0 W W1 : World} {Bw : Nat} {vb v : Value} {S ah : List UInt8} {Bx : Nat} {cs : Array Value} (h : PT w W0 Bw W vb v S ah Bx cs) (hb : Below W.heap.size W W1) : PT w W0 Bw W1 vb v S ah Bx cs :=
  ⟨boxed_below h.bt hb, boxed_below h.ba hb, blk_below h.bx hb, h.own.kept (grown_below hb) (by cases v.ownBlock <;> simp), h.bel.trans (hb.mono h.bel.size), h.bel0.trans (hb.mono (by have := h.bt.lt; omega)), h.ko.trans (KeepsT.below hb)⟩
set_option maxHeartbeats 4000000 in
theorem btext_any (gf : Nat) (lb : Array Value) (zs : List SItm) (hreach : zs.length ≤ 100) (w : World) (eg : ∀ args w, (callFunc gf args).run Tryz.prog w = .ok (.enter gf args) w)
    (hseq : SeqStopsJ 5 Fence.wide 8 Tryz.prog gf lb (fun x : SItm => #[itmV x.1]) w.heap.size (fun ys => ys = zs) (fun pre => pre <+: zs) zs.length w) :
    Calls Tryz.prog 70 #[.func (.func gf) #[] lb] w fun e w' => e = .returned (.string ⟨((runI zs).1 ++ [125]).toArray⟩) ∧ Below w.heap.size w w' := by
  refine (callsIn_wide (n := 9)).1 ?_
  refine callsIn_of_wp_marks Tryz.func70 rfl trivial ?_ rfl
  simp only [Tryz.ntmps70, List.size_toArray, List.length_cons, List.length_nil, Nat.reduceAdd, Nat.reduceSub, Array.replicate_succ, Array.replicate_zero, List.push_toArray, List.append_toArray, List.nil_append, List.cons_append]
  gi_wp2
  obtain ⟨i0, hi, hz0, hz1, hz2⟩ := info_parts info_u8
  have HI := Lib.hid hi
  have HZ := Lib.hid hz0
  have HZ1 := Lib.hid hz1
  have HZ2 := Lib.hid hz2
  clear hi hz0 hz1 hz2
  obtain ⟨W0, hW0⟩ : ∃ W0, (((w.alloc (.cells #[.int .u8 123] 5)).alloc (.cells #[.slice (some ⟨w.heap.size, 0, none⟩) 1 1] 204)).alloc (.cells #[.string ⟨#[]⟩] 9)) = W0 := ⟨_, rfl⟩
  have hlp : Below w.heap.size w W0 := by rw [← hW0]; go_grown
  have hsz : W0.heap.size = w.heap.size + 3 := by rw [← hW0]; simp
  have bt0 : Boxed W0 (w.heap.size + 1) 204 (.slice (some ⟨w.heap.size, 0, none⟩) 1 1) := by
    rw [← hW0]
    have h := Boxed.new (w.alloc (.cells #[.int .u8 123] 5)) 204 (.slice (some ⟨w.heap.size, 0, none⟩) 1 1)
    rw [World.size_alloc] at h
    exact h.alloc _
  have ba0 : Boxed W0 (w.heap.size + 1 + 1) 9 (.string ⟨#[]⟩) := by
    rw [← hW0]
    have h := Boxed.new ((w.alloc (.cells #[.int .u8 123] 5)).alloc (.cells #[.slice (some ⟨w.heap.size, 0, none⟩) 1 1] 204)) 9 (.string ⟨#[]⟩)
    rw [World.size_alloc, World.size_alloc] at h
    exact h
  have ow0 : W0.ownsRow w.heap.size 5 1 (.slice (some ⟨w.heap.size, 0, none⟩) 1 1) 1 (Lib.byteCells [123]) := by
    have h : (w.alloc (.cells #[.int .u8 123] 5)).ownsRow w.heap.size 5 1 (.slice (some ⟨w.heap.size, 0, none⟩) 1 1) 1 (Lib.byteCells [123]) :=
      ⟨rfl, .inr ⟨w.heap.size, 1, #[.int .u8 123], rfl, Nat.le_refl _, heap_alloc_new w _, Nat.le_refl _, by unfold maxLen; omega, rfl, rfl⟩⟩
    rw [← hW0]
    exact (h.alloc _).alloc _
  rw [hW0]
  clear hW0
  refine rangeJ 5 (F := Fence.wide) (n := 9) rfl (by omega) (gf := gf) (lb := lb) rfl trivial eg (n₀ := w.heap.size) hseq (by omega) hlp (fun _ => rfl)
    (fun pre W => (∃ v, Boxed W (w.heap.size + 1) 204 v ∧ W.ownsRow w.heap.size 5 1 v (runI pre).1.length (Lib.byteCells (runI pre).1) ∧ True) ∧ Boxed W (w.heap.size + 1 + 1) 9 (.string ⟨(runI pre).2.toArray⟩) ∧ Below w.heap.size w W)
    (fun _ _ _ => False)
    (OwnFrom.and (Own.from (holdsRow_own w.heap.size (w.heap.size + 1) 204 5 1 (fun pre => (runI pre).1.length) (fun pre => Lib.byteCells (runI pre).1) (fun _ _ => True)) _) (OwnFrom.and (Own.from (boxed_own (w.heap.size + 1 + 1) 9 (fun pre => .string ⟨(runI pre).2.toArray⟩)) _) (ownFrom_below (Nat.le_refl _) (by rw [hsz]; omega))))
    (fun _ _ _ _ _ hs _ _ => hs)
    ⟨⟨_, bt0, ow0, trivial⟩, ba0, hlp⟩
    (fun x a' W => ∃ Bx, w.heap.size + 1 + 1 < Bx ∧ Blk W Bx #[.string ⟨x.1.1.toArray⟩, .string ⟨x.1.2.1.toArray⟩, .string ⟨x.1.2.2.toArray⟩] 205 ∧ a' = { tmps := #[.func (.func gf) #[] lb, undef, .string ⟨#[]⟩, .pointer (some ⟨w.heap.size + 1, 0, none⟩), .pointer (some ⟨w.heap.size + 1 + 1, 0, none⟩), .pointer (some ⟨Bx, 0, none⟩), .slice (some ⟨w.heap.size, 0, none⟩) 1 1, .func (.func gf) #[] lb, .agg #[.string ⟨x.1.1.toArray⟩, .string ⟨x.1.2.1.toArray⟩, .string ⟨x.1.2.2.toArray⟩], undef, undef, undef, undef, undef, undef, undef, undef, undef, undef, undef, undef, undef, undef, undef, undef, undef], defers := [] })
    (fun x a' => ?ax) ?assign ?body ?done ?stop
  case ax => exact fun s X Y row ⟨Bx, q1, q2, q3⟩ hg hr => ⟨Bx, q1, (blk_own (β := Unit) Bx _ _).from _ () X Y row q2 hg hr, q3⟩
  case assign =>
    rintro l pre x W K ⟨⟨v, hv, hrow, _⟩, hleft, hB⟩ hK
    simp only [itmV]
    have hWs : w.heap.size + 1 + 1 < W.heap.size := hleft.lt
    gi_wp2
    exact hK _ _ (KeepsT.alloc _ _ _ _) ((Below.refl _ W).alloc (by omega) _) ⟨⟨v, hv.alloc _, hrow.alloc _, trivial⟩, hleft.alloc _, below_new hB _⟩ ⟨W.heap.size, hWs, heap_alloc_new W _, rfl⟩
  case body =>
    rintro l pre x a' W hl ⟨r, hr⟩ ⟨⟨v, hv, hrow, _⟩, hleft, hB⟩ ⟨Bx, hBx, bX, rfl⟩ hlen
    have hWs : w.heap.size + 1 + 1 < W.heap.size := hleft.lt
    have hx2 := x.2
    unfold ShortI at hx2
    have hSN := runI_snoc pre x
    obtain ⟨m1, m2⟩ := runI_len pre
    have hpl : pre.length ≤ 100 := by omega
    have hSl : (runI pre).1.length ≤ 400301 := by omega
    have hS1 := runI_pos pre
    generalize (runI pre).1 = S at *
    generalize (runI pre).2 = ah at *
    obtain ⟨⟨xn, xo, xv⟩, hx⟩ := x
    dsimp only at hx2 bX hSN ⊢
    obtain ⟨n1, n2, n3⟩ := hx2
    have SN := Lib.hid hSN
    have P0 : PT w W W0.heap.size W.drew v v S ah Bx _ := ⟨hv, hleft, bX, hrow, hB.drew, (Below.refl _ _).drew, ⟨Nat.le_refl _, fun _ _ _ h _ => h⟩⟩
    have H0 := Lib.hid P0
    have hS0 : W.drew.cell? ⟨w.heap.size + 1, 0, none⟩ = some v ∧ W.drew.cell? ⟨w.heap.size + 1 + 1, 0, none⟩ = some (.string ⟨ah.toArray⟩) ∧ W.drew.cell? ⟨Bx, 0, none⟩ = some (.string ⟨xn.toArray⟩) ∧ W.drew.cell? ⟨Bx, 1, none⟩ = some (.string ⟨xo.toArray⟩) ∧ W.drew.cell? ⟨Bx, 2, none⟩ = some (.string ⟨xv.toArray⟩) :=
      ⟨P0.bt.cell, P0.ba.cell, blk_cell P0.bx rfl, blk_cell P0.bx rfl, blk_cell P0.bx rfl⟩
    have HQ := Lib.hid (fun W => quote_any xv (by omega) W)
    have hql := quo_len xv
    clear hSN P0 hv hleft bX hrow hB m1
    have hah : ah.length ≤ 1 := m2
    generalize hqx : quoR xv = qx at *
    have g1 : ah.length + xn.length ≤ 9223372036854775807 := by omega
    have g2 : ah.length + xn.length + xo.length ≤ 9223372036854775807 := by omega
    have g3 : ah.length + xn.length + xo.length + qx.length ≤ 9223372036854775807 := by omega
    have g4 : ¬ 9223372036854775807 < ah.length + xn.length := by omega
    have g5 : ¬ 9223372036854775807 < ah.length + xn.length + xo.length := by omega
    have g6 : ¬ 9223372036854775807 < ah.length + xn.length + xo.length + qx.length := by omega
    have es : ((⟨ah.toArray⟩ : ByteArray) ++ ⟨xn.toArray⟩ ++ ⟨xo.toArray⟩ ++ ⟨qx.toArray⟩) = ⟨(ah ++ xn ++ xo ++ qx).toArray⟩ := by rw [bapp ah xn, bapp (ah ++ xn) xo, bapp (ah ++ xn ++ xo) qx]
    have el : ((⟨ah.toArray⟩ : ByteArray) ++ ⟨xn.toArray⟩ ++ ⟨xo.toArray⟩ ++ ⟨qx.toArray⟩).size = ah.length + xn.length + xo.length + qx.length := by
      rw [es]
      show (ah ++ xn ++ xo ++ qx).toArray.size = _
      simp only [List.size_toArray, List.length_append]
    have ES := Lib.hid es
    have EL := Lib.hid el
    have QX := Lib.hid hqx
    clear es el hqx
    gi_wp2
    refine region_anyM (S := fun u => u.cell? ⟨w.heap.size + 1, 0, none⟩ = some v ∧ u.cell? ⟨w.heap.size + 1 + 1, 0, none⟩ = some (.string ⟨ah.toArray⟩) ∧ u.cell? ⟨Bx, 0, none⟩ = some (.string ⟨xn.toArray⟩) ∧ u.cell? ⟨Bx, 1, none⟩ = some (.string ⟨xo.toArray⟩) ∧ u.cell? ⟨Bx, 2, none⟩ = some (.string ⟨xv.toArray⟩)) 12 (by kernel_rfl) (fun hS => ?_) hS0
    refine anyM_d 0 [0, 12] hS ?_
    refine anyM_d 1 [1, 4, 7, 11, 12] hS ?_
    refine anyM_d 2 [2, 3, 4, 7, 11, 12] hS ?_
    refine anyM_d 3 [3, 4, 7, 11, 12] hS ?_
    refine anyM_d 4 [4, 7, 11, 12] hS ?_
    refine anyM_d 5 [5, 6, 7, 11, 12] hS ?_
    refine anyM_d 6 [6, 7, 11, 12] hS ?_
    refine anyM_d 7 [7, 11, 12] hS ?_
    refine anyM_d 8 [8, 9, 10, 11, 12] hS ?_
    refine anyM_d 9 [9, 10, 11, 12] hS ?_
    refine anyM_o 10 (fun K hK => ?_)
    go_simp
    refine ⟨trivial, ?_⟩
    gi_at_call 111
    refine (CallsIn.inRound l (callsIn_wide.2 (HQ.out _))).mono ?_
    rintro e w2 ⟨rfl, hb2⟩
    have P2 := H0.out.below hb2
    have hS2 : w2.cell? ⟨w.heap.size + 1, 0, none⟩ = some v ∧ w2.cell? ⟨w.heap.size + 1 + 1, 0, none⟩ = some (.string ⟨ah.toArray⟩) ∧ w2.cell? ⟨Bx, 0, none⟩ = some (.string ⟨xn.toArray⟩) ∧ w2.cell? ⟨Bx, 1, none⟩ = some (.string ⟨xo.toArray⟩) ∧ w2.cell? ⟨Bx, 2, none⟩ = some (.string ⟨xv.toArray⟩) :=
      ⟨P2.bt.cell, P2.ba.cell, blk_cell P2.bx rfl, blk_cell P2.bx rfl, blk_cell P2.bx rfl⟩
    have H2 := Lib.hid P2
    clear hb2 HQ H0 hS hS0 P2
    go_simp
    refine hK _ _ hS2 ?_
    clear hK K
    refine anyM_d 11 [11, 12] hS2 ?_
    refine anyM_l (fun K hK => ?_)
    obtain ⟨v1, w3, hr, own1, g1', _⟩ := Lib.run_append_own_string (P := Tryz.prog) w2 w.heap.size 204 9 204 5 i0 Tryz.underlying204 Tryz.underlying9 HI.out HZ.out HZ1.out HZ2.out v S.length _ H2.out.own _ (by rw [EL.out]; unfold maxLen; omega) (by rw [EL.out]; omega) H2.out.bel.size
    refine oper_append_string (.tmp 9) (.tmp 20) 204 9 rfl rfl rfl hr ?_
    refine hK _ _ ?_
    clear hK K hr hS2
    rw [ES.out, strCells_mk] at own1
    have own1 : w3.ownsRow w.heap.size 5 1 v1 (S.length + (ah.length + xn.length + xo.length + qx.length)) (Lib.byteCells (S ++ (ah ++ xn ++ xo ++ qx))) := by
      rw [bcells_app]
      have e : (⟨(ah ++ xn ++ xo ++ qx).toArray⟩ : ByteArray).size = ah.length + xn.length + xo.length + qx.length := by rw [← ES.out]; exact EL.out
      rw [e] at own1
      exact own1
    obtain ⟨gg1, cap1, rfl⟩ := own_some own1 (by omega)
    have P3 := H2.out.grow g1' own1 (by simp only [List.length_append])
    have P4 := P3.store hBx (by omega)
    have b3 := P3.bt.cell
    have b4 := P3.bt.frozen
    have d3 := P4.ba.cell
    have d4 := P4.ba.frozen
    have H4 := Lib.hid P4
    clear P3 P4 own1 g1' H2
    refine anyI_o 13 (fun K hK => ?_)
    go_simp
    refine hK _ _ ?_
    clear hK K
    refine anyIn_done (by kernel_rfl) ?_ _
    gi_wp2
    have HP := H4.out
    refine ⟨HP.ko.trans (KeepsT.setCell _ (by omega)), HP.bel0.setCell (by show w.heap.size ≤ w.heap.size + 1 + 1; omega) _, ?_⟩
    dsimp only
    rw [SN.out]
    have e : S ++ ah ++ itT (xn, xo, xv) = S ++ (ah ++ xn ++ xo ++ qx) := by rw [← QX.out]; unfold itT; simp
    rw [e]
    exact ⟨⟨_, HP.bt.other (by omega) _, ownsRow_setCell_other (by simpa using HP.own) (HP.ba.not_row (by decide) HP.own).symm _, trivial⟩, HP.ba.set _, HP.bel.setCell (by show w.heap.size ≤ w.heap.size + 1 + 1; omega) _⟩
  case done =>
    rintro D ys W hD rfl ⟨⟨v, hv, hrow, _⟩, hleft, hB⟩ hK
    have c3 := hv.cell
    have f3 := hv.frozen
    obtain ⟨m1, m2⟩ := runI_len ys
    obtain ⟨S, hS⟩ : ∃ S, (runI ys).1 = S := ⟨_, rfl⟩
    rw [hS] at hrow m1
    have HS := Lib.hid hS
    clear hS
    have hbs : w.heap.size ≤ W.heap.size := hB.size
    have H0 := Lib.hid hrow
    have HB := Lib.hid hB
    have HK := Lib.hid hK
    clear hrow hB hK
    gi_wp2_with (gi_at_builtin; refine wpListIn_append_own _ rfl (.tmp 22) (.tmp 23) 204 rfl w.heap.size 5 i0 (.int .u8 0) 1 1 Tryz.underlying204 HI.out HZ.out HZ1.out HZ2.out rfl (by decide) _ _ _ rfl (H0.out.alloc _) ⟨W.heap.size, 0, none⟩ 1 1 [.int .u8 125] rfl rfl (cell_one_new _ _ _) (by simp [Value.oneCell']) ?k1 ?k2 ?k3 ?_)
    case k1 => unfold maxLen; omega
    case k2 => omega
    case k3 => simp; omega
    intro v3 w3 own3 g3' _
    have own3 : w3.ownsRow w.heap.size 5 1 v3 (S.length + 1) (Lib.byteCells (S ++ [125])) := by rw [bcells_app]; exact own3
    have hr := row_at (H0.out.alloc (.cells #[.int .u8 125] 5))
    have ko : KeepsOthers W w3 := (KeepsOthers.alloc _ _).trans (KeepsOthers.of_grownBy g3' fun j o ej hj => by
      obtain ⟨_, c, fz, hc⟩ := hr j ej
      rw [hc] at hj; cases hj; rfl)
    have hK3 := ko.same D _ HK.out rfl
    have hB3 : Below w.heap.size w w3 := (HB.out.alloc hbs _).grown g3' (by simp; omega) (fun i e => (hr i e).1)
    have hC := fun ty => str_of_row (P := Tryz.prog) (src := 204) (dst := ty) own3 Tryz.underlying204 Tryz.underlying5
    have hC := hC 9 Tryz.underlying9
    have B3 := Lib.hid hB3
    have K3 := Lib.hid hK3
    clear own3 g3' hr ko hK3 hB3 H0 c3 f3 hv
    gi_wp2
    refine ⟨by simp, .inl ⟨_, _, rfl, run_takeDeferred K3.out, ?_⟩⟩
    exact ⟨_, results_tmp rfl _ _ _, by rw [HS.out]; rfl, B3.out.trans (belowK_b (w := w) (Nat.le_refl _) w3 D _ _ (by rw [hsz] at hD; omega) K3.out rfl rfl)⟩
  case stop =>
    rintro D c pre W _ _ h _
    exact h.elim
theorem seqJ_map {α β : Type} (f : α → β) {T : TypeId} {F : Fence} {n : Nat} {P : Program} {g : Nat} {lb : Array Value} {encs : β → Array Value} {n₀ : Nat} {zs : List α} {w : World} (h : SeqStopsJ T F n P g lb (fun x => encs (f x)) n₀ (fun ys => ys = zs) (fun pre => pre <+: zs) zs.length w) :
    SeqStopsJ T F n P g lb encs n₀ (fun ys => ys = zs.map f) (fun pre => pre <+: zs.map f) (zs.map f).length w := by
  intro l J Jx W hW hJ hJx hY h0
  refine (h l (fun p => J (p.map f)) (fun p => Jx (p.map f)) W hW (fun s => hJ (s.map f)) (fun s => hJx (s.map f)) (fun pre x W1 hj hl => ?_) h0).mono ?_
  · have := hY (pre.map f) (f x) W1 hj (by simpa using hl)
    simpa only [List.map_append, List.map_cons, List.map_nil] using this
  · rintro e W' ⟨he, hq⟩
    refine ⟨he, ?_⟩
    rcases hq with ⟨xs, hx, hj⟩ | ⟨pre, hp, hj⟩
    · exact .inl ⟨_, congrArg (List.map f) hx, hj⟩
    · exact .inr ⟨_, hp.map f, hj⟩
theorem runI_toI (zs : List SLab) : runI (zs.map toI) = runS zs := by
  unfold runI runS
  rw [List.foldl_map]
  congr 1
  funext s x
  unfold iStep lStep itT labT toI labI quoR
  simp
theorem litems_any (a : Option Addr) (len cap : Nat) (w : World) :
    Calls Tryz.prog 71 #[.slice a len cap] w fun e w' => e = .returned (.func (.func 112) #[] #[.pointer (some ⟨w.heap.size, 0, none⟩)]) ∧ w' = w.alloc (.cells #[.slice a len cap] 24) := by
  go_enter Tryz.func71, Tryz.ntmps71
  go_wp2
  go_ret
  exact ⟨rfl, rfl⟩
set_option maxHeartbeats 1000000 in
theorem ltext_any (a : Option Addr) (len cap : Nat) (zs : List SLab) (hreach : zs.length ≤ 100) (w : World) (hI : Labs w.heap.size w (.slice a len cap) zs) :
    Calls Tryz.prog 35 #[.slice a len cap] w fun e w' => e = .returned (.string ⟨((runS zs).1 ++ [125]).toArray⟩) ∧ Below w.heap.size w w' := by
  have hb := below_cells (w := w) (.cells #[.slice a len cap] 24)
  have D := At.new w #[.slice a len cap] 24
  have HI : Labs (w.alloc (.cells #[.slice a len cap] 24)).heap.size (w.alloc (.cells #[.slice a len cap] 24)) (.slice a len cap) zs := by
    have h := hI.below hb
    rcases h with e | ⟨b, off, c, e, h1, h2⟩
    · exact .inl e
    · exact .inr ⟨b, off, c, e, Nat.lt_of_lt_of_le h1 hb.size, h2⟩
  have hT := btext_any 112 #[.pointer (some ⟨w.heap.size, 0, none⟩)] (zs.map toI) (by simpa using hreach) (w.alloc (.cells #[.slice a len cap] 24)) (enters_of Tryz.func112 (by kernel_rfl) rfl) (seqJ_map (encs := fun x : SItm => #[itmV x.1]) toI (items_stops w.heap.size (w.alloc (.cells #[.slice a len cap] 24)).heap.size (.slice a len cap) zs (by omega) (w.alloc (.cells #[.slice a len cap] 24)) (Nat.le_refl _) (by simp) (D.cell 0 _ rfl) HI))
  rw [runI_toI] at hT
  have HC := Lib.hid hT
  have HB := Lib.hid hb
  clear hI hb D HI hT
  go_enter Tryz.func35, Tryz.ntmps35
  go_wp2_with fail
  refine (litems_any a len cap w).mono ?_
  rintro e w1 ⟨rfl, rfl⟩
  go_wp2_with fail
  refine HC.out.mono ?_
  rintro e w2 ⟨rfl, hb⟩
  go_wp2
  go_ret
  exact ⟨rfl, below_then HB.out hb⟩
def textL (zs : List SLab) : List UInt8 := (runS zs).1 ++ [125]
/-- how a text stands to another, by bytes -/
def cmpR (a b : List UInt8) : Int := if Op.bytesLess a b = true then -1 else if (a == b) = true then 0 else 1
theorem app_one (a : List UInt8) (s : ByteArray) (k : Nat) (hk : k < s.size) : ((⟨a.toArray⟩ : ByteArray) ++ s.extract k (k + 1)) = ⟨(a ++ [s[k]'hk]).toArray⟩ := by
  have e : (s.extract k (k + 1)).data.toList = [s[k]'hk] := by
    rw [Lib.extract_data, Nat.add_sub_cancel_left]
    have hd := Lib.data_getElem? s k hk
    obtain ⟨hn, he⟩ := List.getElem?_eq_some_iff.1 hd
    rw [List.drop_eq_getElem_cons hn, he]
    rfl
  have e2 : s.extract k (k + 1) = ⟨[s[k]'hk].toArray⟩ := bytes_mk _ _ e
  rw [e2]
  exact bapp a _
theorem app4 (a b c : List UInt8) : ((⟨a.toArray⟩ : ByteArray) ++ ⟨b.toArray⟩ ++ ⟨#[61]⟩ ++ ⟨c.toArray⟩) = ⟨(a ++ b ++ [61] ++ c).toArray⟩ := by
  rw [bapp a b, show ((⟨(a ++ b).toArray⟩ : ByteArray) ++ ⟨#[61]⟩) = ⟨(a ++ b ++ [61]).toArray⟩ from bapp (a ++ b) [61], bapp (a ++ b ++ [61]) c]
theorem quoted_at (s : ByteArray) (l : List UInt8) (hud : s.data.toList = l) (hl : l.length ≤ 1000) (w : World) :
    Calls Tryz.prog 125 #[.string s] w fun e w' => e = .returned (.string ⟨([34] ++ escR l ++ [34]).toArray⟩) ∧ w = w' := by
  have hsz : s.size = l.length := by rw [Lib.size_eq, hud]
  have HU := Lib.hid hud
  clear hud
  go_enter Tryz.func125, Tryz.ntmps125
  go_wp2
  go_loop [3, 4] (fun o i => ∃ (k : Nat) (T : List UInt8), k ≤ l.length ∧ i = .int .i64 (k : Int) ∧ o = .string ⟨T.toArray⟩ ∧ T = [34] ++ escR (l.take k)) (fun _ i => l.length - (intOf i).toNat)
  case atStart => exact ⟨0, [34], Nat.zero_le _, rfl, rfl, rfl⟩
  case round =>
    obtain ⟨k, T, hk, rfl, rfl, hT⟩ := hrel
    have hTl : T.length ≤ 3000 := by
      have := escR_len (l.take k)
      rw [List.length_take] at this
      rw [hT]; simp only [List.length_append, List.length_cons, List.length_nil]; omega
    by_cases hlt : k < l.length
    · have hi : k < s.size := by omega
      have app := app_one T s k hi
      have app2 := app_one (T ++ [92]) s k hi
      obtain ⟨c, hc⟩ : ∃ c : UInt8, s[k]'hi = c := ⟨_, rfl⟩
      have hcl : l[k]? = some c := by rw [← HU.out, ← hc]; exact Lib.data_getElem? s k hi
      obtain ⟨hn, he⟩ := List.getElem?_eq_some_iff.1 hcl
      have hsn : [34] ++ escR (l.take (k + 1)) = T ++ escC c := by rw [List.take_succ_eq_append_getElem hn, he, escR_snoc, hT]; simp
      rw [hc] at app app2
      have h0 : (0 : Int) ≤ (k : Int) := by omega
      have h1 : (k : Int) < (s.size : Int) := by omega
      have SN := Lib.hid hsn
      have AP := Lib.hid app
      have AP2 := Lib.hid app2
      clear hsn hcl he hT app app2
      by_cases q1 : c.toNat = 34
      · have d1 : ((c.toNat : Int) == 34) = true := by rw [beq_iff_eq]; omega
        go_wp2
        refine ⟨⟨k + 1, T ++ [92, c], by omega, by go_num, ?_, ?_⟩, by simp only [intOf]; omega⟩
        · rw [show ((⟨T.toArray⟩ : ByteArray) ++ ⟨#[92]⟩) = ⟨(T ++ [92]).toArray⟩ from bapp T [92], AP2.out]; simp
        · rw [SN.out]; unfold escC; rw [if_pos (by omega)]
      · have d1 : ((c.toNat : Int) == 34) = false := by rw [beq_eq_false_iff_ne]; omega
        by_cases q2 : c.toNat = 92
        · have d2 : ((c.toNat : Int) == 92) = true := by rw [beq_iff_eq]; omega
          go_wp2
          refine ⟨⟨k + 1, T ++ [92, c], by omega, by go_num, ?_, ?_⟩, by simp only [intOf]; omega⟩
          · rw [show ((⟨T.toArray⟩ : ByteArray) ++ ⟨#[92]⟩) = ⟨(T ++ [92]).toArray⟩ from bapp T [92], AP2.out]; simp
          · rw [SN.out]; unfold escC; rw [if_pos (by omega)]
        · have d2 : ((c.toNat : Int) == 92) = false := by rw [beq_eq_false_iff_ne]; omega
          go_wp2
          refine ⟨⟨k + 1, T ++ [c], by omega, by go_num, ?_, ?_⟩, by simp only [intOf]; omega⟩
          · rw [AP.out]
          · rw [SN.out]; unfold escC; rw [if_neg (by omega)]
    · obtain rfl : k = l.length := by omega
      have h1 : ¬ (l.length : Int) < (s.size : Int) := by omega
      rw [List.take_length] at hT
      have HT := Lib.hid hT
      clear hT
      go_wp2
      go_ret
      refine ⟨?_, rfl⟩
      show Ending.returned (.string ((⟨T.toArray⟩ : ByteArray) ++ ⟨#[34]⟩)) = _
      rw [show ((⟨T.toArray⟩ : ByteArray) ++ ⟨#[34]⟩) = ⟨(T ++ [34]).toArray⟩ from bapp T [34], HT.out]
      rfl
/-- the reference's Text of labels in memory -/
theorem run_snd (pre : List SLab) : (runS pre).2 = if pre = [] then [] else [44] := by
  rcases List.eq_nil_or_concat pre with rfl | ⟨q, x, rfl⟩
  · rfl
  · rw [List.concat_eq_append, runS_snoc, if_neg (by simp)]
set_option maxHeartbeats 4000000 in
theorem rtext_any (a : Option Addr) (len cap : Nat) (zs : List SLab) (hlen : zs.length ≤ 100) (w : World) (hI : Labs w.heap.size w (.slice a len cap) zs) :
    Calls Tryz.prog 85 #[.slice a len cap] w fun e w' => e = .returned (.string ⟨(textL zs).toArray⟩) ∧ Below w.heap.size w w' := by
  obtain rfl : len = zs.length := hI.len
  have HI := Lib.hid hI
  clear hI
  go_enter Tryz.func85, Tryz.ntmps85
  go_wp2
  go_loopw [3, 4] (fun o i wr => ∃ (k : Nat) (T : List UInt8), k ≤ zs.length ∧ i = .int .i64 (k : Int) ∧ o = .string ⟨T.toArray⟩ ∧ T = (runS (zs.take k)).1 ∧ Below w.heap.size w wr) (fun _ i _ => zs.length - (intOf i).toNat)
  case atStart => exact ⟨0, [123], Nat.zero_le _, rfl, rfl, rfl, Below.refl _ _⟩
  case round =>
    obtain ⟨k, T, hk, rfl, rfl, hT, hB⟩ := hrel
    have hTl : T.length ≤ 60401 := by
      have := (runS_len (zs.take k)).1
      rw [List.length_take] at this
      rw [hT]; omega
    by_cases hlt : k < zs.length
    · obtain ⟨x, hx⟩ : ∃ x, zs[k]? = some x := ⟨_, List.getElem?_eq_getElem hlt⟩
      obtain ⟨hn, he⟩ := List.getElem?_eq_some_iff.1 hx
      have hsn : (runS (zs.take (k + 1))).1 = T ++ (runS (zs.take k)).2 ++ labT x.1 := by rw [List.take_succ_eq_append_getElem hn, he, runS_snoc, hT]
      rw [run_snd] at hsn
      rcases HI.out.below hB with ⟨_, rfl⟩ | ⟨b, off, c, e, hb, hc⟩
      · simp at hlt
      obtain ⟨rfl, rfl⟩ : a = some ⟨b, off, none⟩ ∧ cap = c := by simpa using e
      obtain ⟨c0, c1⟩ := hc k x hx
      obtain ⟨⟨xn, xv⟩, hx0⟩ := x
      have hx1 : xn.length ≤ 200 := hx0.1
      have hx2 : xv.length ≤ 200 := hx0.2
      dsimp only at c0 c1 hsn
      have h0 : (0 : Int) ≤ (k : Int) := by omega
      have h1 : (k : Int) < (zs.length : Int) := by omega
      have QQ := Lib.hid (fun W => (quoted_at ⟨xv.toArray⟩ xv rfl (by omega) W).mono (R' := fun e w' => e = .returned (.string ⟨([34] ++ escR xv ++ [34]).toArray⟩) ∧ w' = W) (fun _ _ h => ⟨h.1, h.2.symm⟩))
      have hq := escR_len xv
      have HQ : ([34] ++ escR xv ++ [34]).length ≤ 402 := by simp only [List.length_append, List.length_cons, List.length_nil]; omega
      have eqt : ∀ P : List UInt8, P ++ labT (xn, xv) = P ++ xn ++ [61] ++ ([34] ++ escR xv ++ [34]) := fun P => by unfold labT; simp
      have EQT := Lib.hid eqt
      have SN := Lib.hid hsn
      generalize [34] ++ escR xv ++ [34] = Q at *
      clear e hc hx he hsn hT hq eqt
      by_cases hk0 : k = 0
      · have d0 : decide ((0 : Int) < (k : Int)) = false := by rw [decide_eq_false_iff_not]; omega
        have d1 : decide (0 < k) = false := by rw [decide_eq_false_iff_not]; omega
        have d2 : ¬ 0 < k := by omega
        have SN2 : Hid ((runS (zs.take (k + 1))).1 = T ++ xn ++ [61] ++ Q) := by
          unfold Hid
          rw [SN.out, if_pos (by rw [hk0]; rfl), List.append_nil, EQT.out]
        clear SN hk0 EQT
        go_wp2
        go_quiet ((go_at_call 125; exact Calls.quiet_of_same (QQ.out _)))
        have hB2 : Below w.heap.size w (wr.drewN nq) := below_dN hB nq
        go_wp2
        go_roundw
        case rel => exact ⟨k + 1, T ++ xn ++ [61] ++ Q, by omega, by go_num, by rw [app4], SN2.out.symm, hB2⟩
        case measure => simp [intOf]; omega
      · have d0 : decide ((0 : Int) < (k : Int)) = true := by rw [decide_eq_true_eq]; omega
        have d1 : decide (0 < k) = true := by rw [decide_eq_true_eq]; omega
        have d2 : 0 < k := by omega
        have SN2 : Hid ((runS (zs.take (k + 1))).1 = T ++ [44] ++ xn ++ [61] ++ Q) := by
          unfold Hid
          rw [SN.out, if_neg (by
            intro e
            have hz : (zs.take k).length = 0 := by rw [e]; rfl
            rw [List.length_take] at hz
            omega), EQT.out]
        clear SN hk0 EQT
        go_wp2
        go_quiet ((go_at_call 125; exact Calls.quiet_of_same (QQ.out _)))
        have hB2 : Below w.heap.size w (wr.drewN nq) := below_dN hB nq
        go_wp2
        go_roundw
        case rel => exact ⟨k + 1, T ++ [44] ++ xn ++ [61] ++ Q, by omega, by go_num, by rw [show ((⟨T.toArray⟩ : ByteArray) ++ ⟨#[44]⟩) = ⟨(T ++ [44]).toArray⟩ from bapp T [44], app4], SN2.out.symm, hB2⟩
        case measure => simp [intOf]; omega
    · obtain rfl : k = zs.length := by omega
      rw [List.take_length] at hT
      have HT := Lib.hid hT
      clear hT
      go_wp2
      go_ret
      refine ⟨?_, hB⟩
      show Ending.returned (.string ((⟨T.toArray⟩ : ByteArray) ++ ⟨#[125]⟩)) = _
      rw [show ((⟨T.toArray⟩ : ByteArray) ++ ⟨#[125]⟩) = ⟨(T ++ [125]).toArray⟩ from bapp T [125], HT.out]
      rfl
theorem rsame_any (a1 a2 : Option Addr) (n1 c1 n2 c2 : Nat) (x y : List SLab) (hx : x.length ≤ 100) (hy : y.length ≤ 100) (w : World) (h1 : Labs w.heap.size w (.slice a1 n1 c1) x) (h2 : Labs w.heap.size w (.slice a2 n2 c2) y) :
    Calls Tryz.prog 46 #[.slice a1 n1 c1, .slice a2 n2 c2] w fun e w' => e = .returned (.bool (textL x == textL y && ((x.length : Int) == (y.length : Int)))) ∧ Below w.heap.size w w' := by
  obtain rfl : n1 = x.length := h1.len
  obtain rfl : n2 = y.length := h2.len
  have T1 := Lib.hid (rtext_any a1 x.length c1 x hx w h1)
  have T2 := Lib.hid (fun (W : World) (hb : Below w.heap.size w W) => rtext_any a2 y.length c2 y hy W (by
    rcases h2.below hb with e | ⟨b, off, cap, e, g1, g2⟩
    · exact .inl e
    · exact .inr ⟨b, off, cap, e, Nat.lt_of_lt_of_le g1 hb.size, g2⟩))
  clear h1 h2
  generalize textL x = p at *
  generalize textL y = q at *
  have ep : ByteArray.toList ⟨p.toArray⟩ = p := by rw [ByteArray.toList_eq]
  have eq : ByteArray.toList ⟨q.toArray⟩ = q := by rw [ByteArray.toList_eq]
  have hB0 := Below.refl w.heap.size w
  cases hpq : (p == q)
  · go_enter Tryz.func46, Tryz.ntmps46
    go_wp2_with fail
    refine (T1.out).mono ?_
    rintro e w1 ⟨rfl, hb1⟩
    go_wp2_with fail
    refine (T2.out _ hb1).mono ?_
    rintro e w2 ⟨rfl, hb2⟩
    go_wp2
    go_ret
    exact ⟨rfl, hb1.trans (hb2.mono hb1.size)⟩
  · go_enter Tryz.func46, Tryz.ntmps46
    go_wp2_with fail
    refine (T1.out).mono ?_
    rintro e w1 ⟨rfl, hb1⟩
    go_wp2_with fail
    refine (T2.out _ hb1).mono ?_
    rintro e w2 ⟨rfl, hb2⟩
    go_wp2
    go_ret
    exact ⟨rfl, hb1.trans (hb2.mono hb1.size)⟩
theorem labs_later {W w1 : World} {v : Value} {zs : List SLab} (h : Labs W.heap.size W v zs) (hb : Below W.heap.size W w1) : Labs w1.heap.size w1 v zs := by
  rcases h.below hb with e | ⟨b, off, cap, e, h1, h2⟩
  · exact .inl e
  · exact .inr ⟨b, off, cap, e, Nat.lt_of_lt_of_le h1 hb.size, h2⟩
theorem rcompare_any (a1 a2 : Option Addr) (n1 c1 n2 c2 : Nat) (x y : List SLab) (hx : x.length ≤ 100) (hy : y.length ≤ 100) (w : World) (h1 : Labs w.heap.size w (.slice a1 n1 c1) x) (h2 : Labs w.heap.size w (.slice a2 n2 c2) y) :
    Calls Tryz.prog 47 #[.slice a1 n1 c1, .slice a2 n2 c2] w fun e w' => e = .returned (.int .i64 (cmpR (textL x) (textL y))) ∧ Below w.heap.size w w' := by
  obtain rfl : n1 = x.length := h1.len
  obtain rfl : n2 = y.length := h2.len
  have T1 := Lib.hid (rtext_any a1 x.length c1 x hx w h1)
  have T2 := Lib.hid (fun (W : World) (hb : Below w.heap.size w W) => rtext_any a2 y.length c2 y hy W (labs_later h2 hb))
  clear h1 h2
  generalize textL x = p at *
  generalize textL y = q at *
  have ep : ByteArray.toList ⟨p.toArray⟩ = p := by rw [ByteArray.toList_eq]
  have eq : ByteArray.toList ⟨q.toArray⟩ = q := by rw [ByteArray.toList_eq]
  have hB0 := Below.refl w.heap.size w
  have R : Hid (cmpR p q = if Op.bytesLess p q = true then -1 else if (p == q) = true then 0 else 1) := rfl
  cases h1 : Op.bytesLess p q
  · cases h2 : (p == q)
    · go_enter Tryz.func47, Tryz.ntmps47
      go_wp2_with fail
      refine (T1.out).mono ?_
      rintro e w1 ⟨rfl, hb1⟩
      go_wp2_with fail
      refine (T2.out _ hb1).mono ?_
      rintro e w2 ⟨rfl, hb2⟩
      go_wp2
      go_ret
      exact ⟨by rw [R.out, if_neg (by rw [h1]; simp), if_neg (by rw [h2]; simp)]; rfl, hb1.trans (hb2.mono hb1.size)⟩
    · go_enter Tryz.func47, Tryz.ntmps47
      go_wp2_with fail
      refine (T1.out).mono ?_
      rintro e w1 ⟨rfl, hb1⟩
      go_wp2_with fail
      refine (T2.out _ hb1).mono ?_
      rintro e w2 ⟨rfl, hb2⟩
      go_wp2
      go_ret
      exact ⟨by rw [R.out, if_neg (by rw [h1]; simp), if_pos h2]; rfl, hb1.trans (hb2.mono hb1.size)⟩
  · go_enter Tryz.func47, Tryz.ntmps47
    go_wp2_with fail
    refine (T1.out).mono ?_
    rintro e w1 ⟨rfl, hb1⟩
    go_wp2_with fail
    refine (T2.out _ hb1).mono ?_
    rintro e w2 ⟨rfl, hb2⟩
    go_wp2
    go_ret
    exact ⟨by rw [R.out, if_pos h1]; rfl, hb1.trans (hb2.mono hb1.size)⟩
end Go.Proofs.YtedcdhngiofpjaaGreatDoor
