/- Labels and samples of the program's: what earlier stages walked. -/
import Derived.Test.YtoodcaonlfeleaaDoorLb
import Derived.Test.YtoodcaonlfeleaaDoorShelf
import Derived.Shelf.Strings.SlTrimAscii
import Derived.Laws.RangeAny
import Derived.Laws.RangeString
import Derived.RangeFuncNested
import Derived.RangeFuncBound
import Derived.RangeFuncCalls
import Derived.RangeFuncLeaves
import Derived.RangeFuncBox
import Derived.Test.YtoodcaonlfeleaaDoorRangeJ
import Derived.Shelf.Abstract
import Derived.OwnWalkIn
import Derived.TacticsInMore
import Derived.LoopNIn
import Derived.LoopIn
import Derived.Lib.AppendStr
import Derived.Laws.IdiomStrings
import Derived.Lib.OthersKept
import Derived.Lib.UnsafeStr
import Derived.Laws.AppendOwn
import Derived.Maps.AppendAt
import Derived.PinnedBridge
namespace Go.Proofs.YtoodcaonlfeleaaDoor
open Go Go.Proofs Go.RowKit Go.Shelf Go.Lib
set_option maxRecDepth 100000
def lettersL : List UInt8 := [97, 98, 99, 100, 101, 102, 103, 104, 105, 106, 107, 108, 109, 110, 111, 112, 113, 114, 115, 116, 117, 118, 119, 120, 121, 122, 95]
def wordL : List UInt8 := lettersL ++ [48, 49, 50, 51, 52, 53, 54, 55, 56, 57]
theorem let_iff (c : UInt8) : lettersL.contains c = isLet c := by
  have h : ∀ n : Fin 256, lettersL.contains (UInt8.ofNat n.val) = isLet (UInt8.ofNat n.val) := by decide +kernel
  have := h ⟨c.toNat, c.toNat_lt⟩
  rwa [UInt8.ofNat_toNat] at this
theorem word_iff (c : UInt8) : wordL.contains c = isWord c := by
  have h : ∀ n : Fin 256, wordL.contains (UInt8.ofNat n.val) = isWord (UInt8.ofNat n.val) := by decide +kernel
  have := h ⟨c.toNat, c.toNat_lt⟩
  rwa [UInt8.ofNat_toNat] at this
theorem dw_nil (p : UInt8 → Bool) (l : List UInt8) : l.dropWhile p = [] ↔ l.all p = true := by
  induction l with
  | nil => simp
  | cons a t ih =>
    rw [List.dropWhile_cons, List.all_cons]
    by_cases h : p a = true
    · rw [if_pos h, ih, h, Bool.true_and]
    · rw [if_neg h]
      simp only [Bool.not_eq_true] at h
      rw [h]
      simp
theorem trim_nil (l cs : List UInt8) : Lib.trimS l cs = [] ↔ l.all (cs.contains ·) = true := by
  unfold Lib.trimS Lib.trimLeftS Lib.trimRightS
  rw [dw_nil]
  constructor
  · intro h
    by_cases h0 : l.reverse.dropWhile (cs.contains ·) = []
    · rw [dw_nil] at h0
      simpa using h0
    · exfalso
      obtain ⟨a, t, e⟩ : ∃ a t, l.reverse.dropWhile (cs.contains ·) = a :: t := by
        cases h1 : l.reverse.dropWhile (cs.contains ·) with
        | nil => exact absurd h1 h0
        | cons a t => exact ⟨a, t, rfl⟩
      have hn : cs.contains a = false := by
        have := List.head_dropWhile_not (p := (cs.contains ·)) (l := l.reverse) h0
        simp only [e, List.head_cons] at this
        simpa using this
      rw [e, List.all_eq_true] at h
      have := h a (by simp)
      rw [hn] at this
      cases this
  · intro h
    rw [List.all_eq_true] at h ⊢
    intro x hx
    have hx1 := (List.dropWhile_sublist (p := (cs.contains ·)) (l := l.reverse)).subset (List.mem_reverse.1 hx)
    exact h x (List.mem_reverse.1 hx1)
theorem all_let (l : List UInt8) : l.all (lettersL.contains ·) = l.all isLet := by congr 1; funext c; exact let_iff c
theorem all_word (l : List UInt8) : l.all (wordL.contains ·) = l.all isWord := by congr 1; funext c; exact word_iff c
theorem ascii_of_all {l : List UInt8} (h : l.all (fun b => decide (b.toNat < 128)) = true) (j : Nat) (b : UInt8) (hj : l[j]? = some b) : b.toNat < 128 := by
  have := List.all_eq_true.1 h b (List.mem_of_getElem? hj)
  simpa using this
theorem trimL (s : ByteArray) (w : World) (hs : s.size ≤ 9223372036854775807) :
    Calls Tryd.prog 45 #[.string s, .string ⟨#[97, 98, 99, 100, 101, 102, 103, 104, 105, 106, 107, 108, 109, 110, 111, 112, 113, 114, 115, 116, 117, 118, 119, 120, 121, 122, 95]⟩] w fun e w' => e = .returned (.string ⟨(Lib.trimS s.data.toList lettersL).toArray⟩) ∧ Below w.heap.size w w' :=
  Any.strings_Trim_laid Tryd.lays160 (by kernel_rfl) s ⟨#[97, 98, 99, 100, 101, 102, 103, 104, 105, 106, 107, 108, 109, 110, 111, 112, 113, 114, 115, 116, 117, 118, 119, 120, 121, 122, 95]⟩ w hs (by decide) (ascii_of_all (by decide))
theorem trimW (s : ByteArray) (w : World) (hs : s.size ≤ 9223372036854775807) :
    Calls Tryd.prog 45 #[.string s, .string ⟨#[97, 98, 99, 100, 101, 102, 103, 104, 105, 106, 107, 108, 109, 110, 111, 112, 113, 114, 115, 116, 117, 118, 119, 120, 121, 122, 95, 48, 49, 50, 51, 52, 53, 54, 55, 56, 57]⟩] w fun e w' => e = .returned (.string ⟨(Lib.trimS s.data.toList wordL).toArray⟩) ∧ Below w.heap.size w w' :=
  Any.strings_Trim_laid Tryd.lays160 (by kernel_rfl) s ⟨#[97, 98, 99, 100, 101, 102, 103, 104, 105, 106, 107, 108, 109, 110, 111, 112, 113, 114, 115, 116, 117, 118, 119, 120, 121, 122, 95, 48, 49, 50, 51, 52, 53, 54, 55, 56, 57]⟩ w hs (by decide) (ascii_of_all (by decide))
set_option maxHeartbeats 1000000 in
theorem name_any (l : List UInt8) (w : World) :
    Calls Tryd.prog 42 #[.string ⟨l.toArray⟩] w fun e w' => e = .returned (.bool (nameR l)) ∧ Below w.heap.size w w' := by
  have hL : (⟨l.toArray⟩ : ByteArray).toList = l := by rw [ByteArray.toList_eq]
  have hsz : (⟨l.toArray⟩ : ByteArray).size = l.length := rfl
  rcases l with _ | ⟨c, t⟩
  · go_enter Tryd.func42, Tryd.ntmps42
    go_wp2
    go_ret
    exact ⟨rfl, Below.refl _ _⟩
  · have h0 : (c :: t).isEmpty = false := rfl
    by_cases h16 : 16 < (c :: t).length
    · have hz : (16 : Int) < ((c :: t).length : Int) := by omega
      have R : Hid (nameR (c :: t) = false) := by show (decide ((c :: t).length ≤ 16) && isLet c && (c :: t).all isWord) = false; rw [decide_eq_false (by omega)]; rfl
      generalize c :: t = l at *
      go_enter Tryd.func42, Tryd.ntmps42
      go_wp2
      go_ret
      exact ⟨by rw [R.out]; rfl, Below.refl _ _⟩
    · have hz : ¬ (16 : Int) < ((c :: t).length : Int) := by omega
      have h1 : 1 ≤ (c :: t).length := by simp
      have T1 := Lib.hid (fun W => trimL ((⟨(c :: t).toArray⟩ : ByteArray).extract 0 1) W (by rw [Lib.size_eq, Lib.extract_data]; simp))
      have T2 := Lib.hid (fun W => trimW (⟨(c :: t).toArray⟩ : ByteArray) W (by rw [hsz]; omega))
      have e1 : ((⟨(c :: t).toArray⟩ : ByteArray).extract 0 1).data.toList = [c] := by rw [Lib.extract_data]; simp
      rw [e1] at T1
      have a1 := trim_nil [c] lettersL
      have a2 := trim_nil (c :: t) wordL
      rw [all_let] at a1
      rw [all_word] at a2
      have R : Hid (nameR (c :: t) = (isLet c && (c :: t).all isWord)) := by show (decide ((c :: t).length ≤ 16) && isLet c && (c :: t).all isWord) = _; rw [decide_eq_true (by omega)]; rfl
      obtain ⟨u1, hu1⟩ : ∃ u1, Lib.trimS [c] lettersL = u1 := ⟨_, rfl⟩
      obtain ⟨u2, hu2⟩ : ∃ u2, Lib.trimS (c :: t) wordL = u2 := ⟨_, rfl⟩
      rw [hu1] at T1 a1
      rw [show Lib.trimS (⟨(c :: t).toArray⟩ : ByteArray).data.toList wordL = u2 from hu2] at T2
      rw [hu2] at a2
      have g1 : (⟨u1.toArray⟩ : ByteArray).toList = u1 := by rw [ByteArray.toList_eq]
      have g2 : (⟨u2.toArray⟩ : ByteArray).toList = u2 := by rw [ByteArray.toList_eq]
      clear hu1 hu2 e1 h16
      rw [List.all_cons, List.all_nil, Bool.and_true] at a1
      generalize (c :: t).all isWord = b2 at *
      generalize isLet c = b1 at *
      generalize c :: t = l at *
      have A1 := Lib.hid a1
      have A2 := Lib.hid a2
      clear a1 a2
      cases b1
      · have k1 : u1.isEmpty = false := by
          cases u1 with
          | nil => have := A1.out.1 rfl; cases this
          | cons _ _ => rfl
        go_enter Tryd.func42, Tryd.ntmps42
        go_wp2_with fail
        refine (T1.out _).mono ?_
        rintro e w1 ⟨rfl, hb1⟩
        go_wp2
        go_ret
        exact ⟨by rw [R.out]; rfl, hb1⟩
      · obtain rfl : u1 = [] := A1.out.2 rfl
        go_enter Tryd.func42, Tryd.ntmps42
        go_wp2_with fail
        refine (T1.out _).mono ?_
        rintro e w1 ⟨rfl, hb1⟩
        go_wp2_with fail
        refine (T2.out _).mono ?_
        rintro e w2 ⟨rfl, hb2⟩
        have hB := hb1.trans (hb2.mono hb1.size)
        cases b2
        · have k2 : u2.isEmpty = false := by
            cases u2 with
            | nil => have := A2.out.1 rfl; cases this
            | cons _ _ => rfl
          go_wp2
          go_ret
          exact ⟨by rw [R.out]; rfl, hB⟩
        · obtain rfl : u2 = [] := A2.out.2 rfl
          go_wp2
          go_ret
          exact ⟨by rw [R.out]; rfl, hB⟩
attribute [local go_sem] Oper.semAt_some
def labV (x : Lab) : Value := .agg #[.string ⟨x.1.toArray⟩, .string ⟨x.2.toArray⟩]
set_option maxHeartbeats 4000000 in
theorem values1_in (F : Fence) (n : Nat) (hf : F.fn 44) (hro : F.round = none) (hn : 1 ≤ n) (l Bs n₀ b off cap : Nat) (zs : List SLab) (hreach : zs.length ≤ 1000000) (hb : b < n₀) (J Jx : List SLab → World → Prop)
    (hJa : ∀ pre W o, J pre W → J pre (W.alloc o))
    (hY : ∀ pre x W, J pre W → pre.length < zs.length → YieldAt F (n - 1) Tryd.prog l #[labV x.1] W fun e W' =>
      (e = .returned (.bool true) ∧ J (pre ++ [x]) W' ∧ Below n₀ W W') ∨ (e = .returned (.bool false) ∧ Jx (pre ++ [x]) W'))
    (W : World) (hn0 : n₀ ≤ W.heap.size) (hBs : W.cell? ⟨Bs, 0, none⟩ = some (.slice (some ⟨b, off, none⟩) zs.length cap))
    (hc : ∀ j x, zs[j]? = some x → W.cell? ⟨b, off + j * 2, none⟩ = some (.string ⟨x.1.1.toArray⟩) ∧ W.cell? ⟨b, off + j * 2 + 1, none⟩ = some (.string ⟨x.1.2.toArray⟩)) (h0 : J [] W) :
    CallsIn F n Tryd.prog 44 #[.func (.yield l) #[] #[], .pointer (some ⟨Bs, 0, none⟩)] W fun e W' => (∃ v, e = .returned v) ∧
      ((∃ ys, ys = zs ∧ J ys W') ∨ (∃ pre, pre <+: zs ∧ Jx pre W')) := by
  refine callsIn_of_wp Tryd.func44 rfl hf ?_ hro
  simp only [Tryd.ntmps44, List.size_toArray, List.length_cons, List.length_nil, Nat.reduceAdd, Nat.reduceSub, Array.replicate_succ, Array.replicate_zero, List.push_toArray, List.append_toArray, List.nil_append, List.cons_append]
  gi_wp2
  gi_loopw [7] (fun i wr => ∃ k : Nat, k ≤ zs.length ∧ i = .int .i64 (k : Int) ∧ J (zs.take k) wr ∧ Below n₀ W wr ∧ n₀ ≤ wr.heap.size)
    (fun i _ => zs.length - (intOf i).toNat)
  case atStart => exact ⟨0, Nat.zero_le _, rfl, h0, Below.refl _ _, hn0⟩
  case round =>
    obtain ⟨k, hk, rfl, hJs, hnx, hge⟩ := hrel
    by_cases hlt : k < zs.length
    · obtain ⟨x, hx⟩ : ∃ x, zs[k]? = some x := ⟨_, List.getElem?_eq_getElem hlt⟩
      obtain ⟨hn1, he1⟩ := List.getElem?_eq_some_iff.1 hx
      have htk : zs.take (k + 1) = zs.take k ++ [x] := by rw [List.take_succ_eq_append_getElem hn1, he1]
      obtain ⟨c0, c1⟩ := hc k x hx
      have c0 := (hnx.cell (p := ⟨b, off + k * 2, none⟩) hb).trans c0
      have c1 := (hnx.cell (p := ⟨b, off + k * 2 + 1, none⟩) hb).trans c1
      have hJa' := hJa _ _ (.cells #[.string ⟨x.1.1.toArray⟩, .string ⟨x.1.2.toArray⟩] 69) hJs
      obtain ⟨fn, tmps, assign, body, hy, hR⟩ := hY _ x _ hJa' (by rw [List.length_take]; omega)
      unfold labV at hy
      have h1 : (0 : Int) ≤ (k : Int) := by omega
      have h2 : (k : Int) < (zs.length : Int) := by omega
      have TK := Lib.hid htk
      clear htk hx he1
      gi_wp2
      refine hR.mono ?_
      rintro e W3 (⟨rfl, hJ3, hk3⟩ | ⟨rfl, hJx3⟩)
      · gi_wp2
        go_roundw
        case rel => exact ⟨k + 1, by omega, by simp, by rw [TK.out]; exact hJ3, hnx.trans (((Below.refl _ _).alloc hge _).trans hk3), Nat.le_trans (Nat.le_trans hge (by simp)) hk3.size⟩
        case measure => simp [intOf]; omega
      · gi_wp2
        refine bodyPost_ret (results_none rfl _ _ _) rfl ?_
        exact ⟨⟨_, rfl⟩, .inr ⟨_, by rw [← TK.out]; exact List.take_prefix _ _, hJx3⟩⟩
    · obtain rfl : k = zs.length := by omega
      gi_wp2
      go_end0
      rw [List.take_length] at hJs
      exact ⟨⟨_, rfl⟩, .inl ⟨_, rfl, hJs⟩⟩
theorem values1_nil_in (F : Fence) (n : Nat) (hf : F.fn 44) (hro : F.round = none) (l Bs : Nat) (J : List SLab → World → Prop) (a : Option Addr) (c : Nat) (W : World) (hBs : W.cell? ⟨Bs, 0, none⟩ = some (.slice a 0 c)) (h0 : J [] W) :
    CallsIn F n Tryd.prog 44 #[.func (.yield l) #[] #[], .pointer (some ⟨Bs, 0, none⟩)] W fun e W' => (∃ v, e = .returned v) ∧ J [] W' := by
  refine callsIn_of_wp Tryd.func44 rfl hf ?_ hro
  simp only [Tryd.ntmps44, List.size_toArray, List.length_cons, List.length_nil, Nat.reduceAdd, Nat.reduceSub, Array.replicate_succ, Array.replicate_zero, List.push_toArray, List.append_toArray, List.nil_append, List.cons_append]
  gi_wp2
  gi_loopw [7] (fun i wr => i = .int .i64 0 ∧ J [] wr) (fun _ _ => 0)
  case atStart => exact ⟨rfl, h0⟩
  case round =>
    obtain ⟨rfl, hJs⟩ := hrel
    gi_wp2
    go_end0
    exact ⟨⟨_, rfl⟩, hJs⟩
/-- slices.Values(s): the slice value is boxed; the function value captures the box -/
theorem values_in (F : Fence) (n : Nat) (hf : F.fn 41) (hro : F.round = none) (a : Option Addr) (len cap : Nat) (w : World) :
    CallsIn F n Tryd.prog 41 #[.slice a len cap] w fun e w' => e = .returned (.func (.func 44) #[] #[.pointer (some ⟨w.heap.size, 0, none⟩)]) ∧ w' = w.alloc (.cells #[.slice a len cap] 34) := by
  refine callsIn_of_wp Tryd.func41 rfl hf ?_ hro
  simp only [Tryd.ntmps41, List.size_toArray, List.length_cons, List.length_nil, Nat.reduceAdd, Nat.reduceSub, Array.replicate_succ, Array.replicate_zero, List.push_toArray, List.append_toArray, List.nil_append, List.cons_append]
  gi_wp2
  go_ret
  exact ⟨rfl, rfl⟩
/-- all of zs, in order; or a prefix -/
theorem values_stops (F : Fence) (n : Nat) (hf : F.fn 44) (hro : F.round = none) (hn : 1 ≤ n) (Bs n₀ : Nat) (sv : Value) (zs : List SLab) (hreach : zs.length ≤ 1000000) (w : World) (hBs : Bs < w.heap.size) (hn₀ : n₀ ≤ w.heap.size)
    (hc : w.cell? ⟨Bs, 0, none⟩ = some sv) (hI : Labs n₀ w sv zs) :
    SeqStopsK F n Tryd.prog 44 #[.pointer (some ⟨Bs, 0, none⟩)] (fun x : SLab => #[labV x.1]) (Below n₀) (fun ys => ys = zs) (fun pre => pre <+: zs) zs.length w := fun l J Jx W hW hJ _ hY h0 => by
  have hc' := (hW.cell (p := ⟨Bs, 0, none⟩) hBs).trans hc
  rcases hI.below (hW.mono hn₀) with ⟨⟨a0, k0, rfl⟩, rfl⟩ | ⟨b, off, cap, rfl, hb, hcs⟩
  · exact (values1_nil_in F n hf hro l Bs J a0 k0 W hc' h0).mono fun e W' ⟨he, hj⟩ => ⟨he, .inl ⟨_, rfl, hj⟩⟩
  · exact (values1_in F n hf hro hn l Bs n₀ b off cap zs hreach hb J Jx (fun pre W1 o h => hJ pre W1 (W1.alloc o) none h (World.grownBy_alloc _ _ none) (fun r e => by cases e)) hY W (Nat.le_trans hn₀ hW.size) hc' hcs h0).mono fun e W' h => h
theorem blk_own {β : Type} (B : Nat) (T : TypeId) (cs : Array Value) : Own (fun (_ : β) W => Blk W B cs T) := fun s X Y row hs hg hrow =>
  (hg.block B (Array.getElem?_eq_some_iff.1 hs).1 (fun e' => by obtain ⟨o, ho, hc⟩ := hrow B e'.symm; rw [show X.heap[B]? = _ from hs] at ho; cases ho; cases hc)).trans hs
def badR (r : Nat) : Bool := decide (r < 32) || decide (126 < r)
theorem idx_bad (s : ByteArray) : ∀ (f pos : Nat), s.size ≤ pos + f → decide (0 ≤ Lib.idxFuncFrom badR true s f pos) = (s.data.toList.drop pos).any badB := by
  intro f
  induction f with
  | zero =>
    intro pos h
    rw [List.drop_eq_nil_of_le (by rw [← Lib.size_eq]; omega)]
    rfl
  | succ f ih =>
    intro pos h
    unfold Lib.idxFuncFrom
    by_cases hp : pos < s.size
    · rw [if_pos hp]
      have hd : s.data.toList[pos]? = some (s[pos]'hp) := Lib.data_getElem? s pos hp
      obtain ⟨hn, he⟩ := List.getElem?_eq_some_iff.1 hd
      rw [List.drop_eq_getElem_cons hn, List.any_cons, he]
      by_cases ha : (s[pos]'hp).toNat < 128
      · rw [decode_ascii s pos hp ha]
        dsimp only
        have e : badR (s[pos]'hp).toNat = badB (s[pos]'hp) := rfl
        rw [e]
        cases hb : badB (s[pos]'hp)
        · simp only [Bool.false_eq_true, if_false, Bool.false_or]
          exact ih (pos + 1) (by omega)
        · simp
      · have hr := decode_high s pos hp (by omega)
        have e : badR (Utf8.decode s pos).1 = true := by
          unfold badR
          rw [decide_eq_true (show 126 < (Utf8.decode s pos).1 by omega), Bool.or_true]
        have e2 : badB (s[pos]'hp) = true := by
          unfold badB
          rw [decide_eq_true (show 126 < (s[pos]'hp).toNat by omega), Bool.or_true]
        rw [if_pos e, e2]
        simp
    · rw [if_neg hp, List.drop_eq_nil_of_le (by rw [← Lib.size_eq]; omega)]
      rfl
theorem value_pred (w : World) : PredAt Tryd.prog 47 #[] encR badR w := fun W r _ => by
  unfold FnGives
  by_cases h1 : r < 32
  · have e : badR r = true := by unfold badR; rw [decide_eq_true h1]; rfl
    have h1' : (r : Int) < 32 := by omega
    rw [e]
    go_enter Tryd.func47, Tryd.ntmps47
    go_wp2
    go_ret
    exact ⟨rfl, 0, rfl⟩
  · have h1' : ¬ (r : Int) < 32 := by omega
    by_cases h2 : 126 < r
    · have e : badR r = true := by unfold badR; rw [decide_eq_true h2, Bool.or_true]
      have h2' : (126 : Int) < (r : Int) := by omega
      rw [e]
      go_enter Tryd.func47, Tryd.ntmps47
      go_wp2
      go_ret
      exact ⟨rfl, 0, rfl⟩
    · have e : badR r = false := by unfold badR; rw [decide_eq_false h1, decide_eq_false h2]; rfl
      have h2' : ¬ (126 : Int) < (r : Int) := by omega
      rw [e]
      go_enter Tryd.func47, Tryd.ntmps47
      go_wp2
      go_ret
      exact ⟨rfl, 0, rfl⟩
theorem contains_bad (l : List UInt8) (w : World) :
    Calls Tryd.prog 46 #[.string ⟨l.toArray⟩, .func (.func 47) #[] #[]] w fun e w' => e = .returned (.bool (l.any badB)) ∧ Below w.heap.size w w' := by
  have h := Tryd.strings_ContainsFunc 47 #[] (enters_of Tryd.func47 (by kernel_rfl) rfl) badR ⟨l.toArray⟩ w (value_pred w)
  unfold Lib.idxFunc at h
  rw [idx_bad _ _ 0 (by omega)] at h
  exact h
theorem value_any (l : List UInt8) (w : World) :
    Calls Tryd.prog 43 #[.string ⟨l.toArray⟩] w fun e w' => e = .returned (.bool (valueR l)) ∧ Below w.heap.size w w' := by
  have hsz : (⟨l.toArray⟩ : ByteArray).size = l.length := rfl
  have C := Lib.hid (fun W => contains_bad l W)
  have R : Hid (valueR l = (!l.isEmpty && decide (l.length ≤ 64) && !l.any badB)) := rfl
  cases h0 : l.isEmpty
  · by_cases h64 : 64 < l.length
    · have hz : (64 : Int) < (l.length : Int) := by omega
      have R2 : Hid (valueR l = false) := by unfold Hid valueR; rw [decide_eq_false (show ¬ l.length ≤ 64 by omega)]; simp
      go_enter Tryd.func43, Tryd.ntmps43
      go_wp2
      go_ret
      exact ⟨by rw [R2.out]; rfl, Below.refl _ _⟩
    · have hz : ¬ (64 : Int) < (l.length : Int) := by omega
      have R2 : Hid (valueR l = !l.any badB) := by unfold Hid valueR; rw [decide_eq_true (show l.length ≤ 64 by omega), h0]; simp
      clear R
      generalize l.any badB = b at *
      go_enter Tryd.func43, Tryd.ntmps43
      go_wp2_with fail
      refine (C.out _).mono ?_
      rintro e w1 ⟨rfl, hb1⟩
      go_wp2
      go_ret
      exact ⟨by rw [R2.out]; rfl, hb1⟩
  · obtain rfl : l = [] := by simpa using h0
    go_enter Tryd.func43, Tryd.ntmps43
    go_wp2
    go_ret
    exact ⟨rfl, Below.refl _ _⟩
theorem ko_below {W w2 : World} (hb : Below W.heap.size W w2) : KeepsOthers W w2 :=
  ⟨hb.size, fun k _ hk _ => (hb.block k (Array.getElem?_eq_some_iff.1 hk).1).trans hk⟩
theorem boxed_below {W w2 : World} {B : Nat} {t : TypeId} {v : Value} (h : Boxed W B t v) (hb : Below W.heap.size W w2) : Boxed w2 B t v := (hb.block B h.lt).trans h
theorem blk_below {W w2 : World} {B : Nat} {t : TypeId} {cs : Array Value} (h : Blk W B cs t) (hb : Below W.heap.size W w2) : Blk w2 B cs t := (hb.block B (Array.getElem?_eq_some_iff.1 h).1).trans h
set_option maxHeartbeats 4000000 in
theorem check_any (a : Option Addr) (len cap : Nat) (zs : List SLab) (hreach : zs.length ≤ 100) (w : World) (hI : Labs w.heap.size w (.slice a len cap) zs) :
    Calls Tryd.prog 39 #[.slice a len cap] w fun e w' => e = .returned (.int .i64 (checkR zs)) ∧ Below w.heap.size w w' := by
  obtain rfl : len = zs.length := hI.len
  by_cases h16 : 16 < zs.length
  · have hR : Hid (checkR zs = 4) := by unfold Hid checkR; rw [if_pos h16]
    have hz : (16 : Int) < (zs.length : Int) := by omega
    go_enter Tryd.func39, Tryd.ntmps39
    go_wp2
    refine bodyPost_ret (v := .int .i64 4) (by simp [results, Tryd.results39, go_sem]) rfl ⟨by rw [hR.out], by go_grown⟩
  have hR : Hid (checkR zs = chk [] zs) := by unfold Hid checkR; rw [if_neg h16]
  have hz : ¬ (16 : Int) < (zs.length : Int) := by omega
  refine (callsIn_wide (n := 9)).1 ?_
  refine callsIn_of_wp_marks Tryd.func39 rfl trivial ?_ rfl
  simp only [Tryd.ntmps39, List.size_toArray, List.length_cons, List.length_nil, Nat.reduceAdd, Nat.reduceSub, Array.replicate_succ, Array.replicate_zero, List.push_toArray, List.append_toArray, List.nil_append, List.cons_append]
  gi_wp2
  refine ⟨trivial, (values_in Fence.wide 8 trivial rfl _ _ _ _).mono ?_⟩
  rintro e w1 ⟨rfl, rfl⟩
  gi_wp2
  obtain ⟨W0, hW0⟩ : ∃ W0, (((w.alloc (.cells #[.int .i64 0] 25)).alloc (.cells #[.string ⟨#[]⟩] 9)).alloc (.cells #[.slice a zs.length cap] 34)) = W0 := ⟨_, rfl⟩
  have hlp : Below w.heap.size w W0 := by rw [← hW0]; go_grown
  have hsz : W0.heap.size = w.heap.size + 3 := by rw [← hW0]; simp
  have br0 : Boxed W0 w.heap.size 25 (.int .i64 0) := by
    rw [← hW0]
    exact ((Boxed.new w 25 (.int .i64 0)).alloc _).alloc _
  have bl0 : Boxed W0 (w.heap.size + 1) 9 (.string ⟨#[]⟩) := by
    rw [← hW0]
    have h := Boxed.new (w.alloc (.cells #[.int .i64 0] 25)) 9 (.string ⟨#[]⟩)
    rw [World.size_alloc] at h
    exact h.alloc _
  have bs0 : W0.cell? ⟨w.heap.size + 1 + 1, 0, none⟩ = some (.slice a zs.length cap) := by
    rw [← hW0]
    have h := cell_one_new ((w.alloc (.cells #[.int .i64 0] 25)).alloc (.cells #[.string ⟨#[]⟩] 9)) (.slice a zs.length cap) 34 0 _ rfl
    simpa [Addr.add] using h
  have hI0 := hI.below hlp
  rw [hW0]
  clear hW0 hI
  refine wpIn_rangeFunc_ownH (F := Fence.wide) (n := 9) rfl (by omega) (gf := 44) (lb := #[.pointer (some ⟨w.heap.size + 1 + 1, 0, none⟩)]) rfl trivial (enters_of Tryd.func44 (by kernel_rfl) rfl)
    (encs := fun x => #[labV x.1]) (Kp := Below w.heap.size) (values_stops Fence.wide (9 - 1) trivial rfl (by omega) (w.heap.size + 1 + 1) w.heap.size (.slice a zs.length cap) zs (by omega) W0 (by omega) (by omega) bs0 hI0) belowK_t (belowK_b (by omega)) (Below.refl _ _) (fun _ => rfl)
    (fun pre W => chk [] pre = 0 ∧ Boxed W w.heap.size 25 (.int .i64 0) ∧ Boxed W (w.heap.size + 1) 9 (.string ⟨(lastN [] pre).toArray⟩) ∧ Below w.heap.size w W)
    (fun c pre W => (c = .ret ∧ chk [] pre ≠ 0) ∧ Boxed W w.heap.size 25 (.int .i64 (chk [] pre)) ∧ Below w.heap.size w W)
    (OwnFrom.and (ownFrom_pure _ _) (OwnFrom.and (Own.from (boxed_own w.heap.size 25 (fun _ => .int .i64 0)) _) (OwnFrom.and (Own.from (boxed_own (w.heap.size + 1) 9 (fun pre => .string ⟨(lastN [] pre).toArray⟩)) _) (ownFrom_below (Nat.le_refl _) (by rw [hsz]; omega)))))
    (fun c => OwnFrom.and (ownFrom_pure _ _) (OwnFrom.and (Own.from (boxed_own w.heap.size 25 (fun pre => .int .i64 (chk [] pre))) _) (ownFrom_below (Nat.le_refl _) (by rw [hsz]; omega))))
    ⟨rfl, br0, bl0, hlp⟩
    (fun x a' W => ∃ Bx, w.heap.size + 1 < Bx ∧ Blk W Bx #[.string ⟨x.1.1.toArray⟩, .string ⟨x.1.2.toArray⟩] 69 ∧ a' = { tmps := #[.slice a zs.length cap, undef, .pointer (some ⟨w.heap.size, 0, none⟩), .pointer (some ⟨w.heap.size + 1, 0, none⟩), .pointer (some ⟨Bx, 0, none⟩), .slice a zs.length cap, .int .i64 (zs.length : Int), .bool false, .slice a zs.length cap, .func (.func 44) #[] #[.pointer (some ⟨w.heap.size + 1 + 1, 0, none⟩)], .agg #[.string ⟨x.1.1.toArray⟩, .string ⟨x.1.2.toArray⟩], undef, undef, undef, undef, undef, undef, undef, undef, undef, undef, undef, undef, undef, undef, undef, undef, undef], defers := [] })
    (fun x a' => ?ax) ?assign ?body ?done ?stop
  case ax => exact fun s X Y row ⟨Bx, q1, q2, q3⟩ hg hr => ⟨Bx, q1, (blk_own (β := Unit) Bx _ _).from _ () X Y row q2 hg hr, q3⟩
  case assign =>
    rintro l pre x W K ⟨hp, hn, hr0, hB⟩ hK
    simp only [labV]
    have hWs : w.heap.size + 1 < W.heap.size := hr0.lt
    gi_wp2
    exact hK _ _ ((KeepsOthers.alloc _ _).from _) ((Below.refl _ W).alloc (by omega) _) ⟨hp, hn.alloc _, hr0.alloc _, below_new hB _⟩ ⟨W.heap.size, hWs, heap_alloc_new W _, rfl⟩
  case body =>
    rintro l pre x a' W hl ⟨r, hr⟩ ⟨hp, hn, hr0, hB⟩ ⟨Bx, hBx, bX, rfl⟩ hlen
    have hpx := chk_app pre [x] [] hp
    rw [chk_cons] at hpx
    have hls := lastN_snoc [] pre x
    obtain ⟨⟨xn, xv⟩, hx⟩ := x
    dsimp only at bX hpx hls
    generalize lastN [] pre = last at *
    have HPX := Lib.hid hpx
    have HLS := Lib.hid hls
    clear hpx hp hls
    have cx0 := blk_cell (j := 0) bX rfl
    have HN := Lib.hid (name_any xn W)
    cases hnm : nameR xn
    · rw [hnm] at HN HPX
      have c3 := hn.cell
      have f3 := hn.frozen
      gi_wp2
      refine ⟨trivial, (CallsIn.inRound l (callsIn_wide.2 HN.out)).mono ?_⟩
      rintro e w2 ⟨rfl, hb2⟩
      have n2 := boxed_below hn hb2
      have c3 := n2.cell
      have f3 := n2.frozen
      have hB2 := hB.trans (hb2.mono hB.size)
      have e5 : chk [] (pre ++ [⟨(xn, xv), hx⟩]) = 5 := by rw [HPX.out]; simp
      have K2 := (ko_below hb2).trans (KeepsOthers.setCell w2 ⟨w.heap.size, 0, none⟩ (.int .i64 5))
      have B3 := hB2.setCell (p := ⟨w.heap.size, 0, none⟩) (Nat.le_refl _) (.int .i64 5)
      have E5 := Lib.hid e5
      clear e5 HPX HLS hb2 hB2 HN
      gi_wp2
      exact ⟨K2.from _, ⟨rfl, by rw [E5.out]; decide⟩, by rw [E5.out]; exact n2.set _, B3⟩
    · rw [hnm] at HN HPX
      have e5 : chk [] (pre ++ [⟨(xn, xv), hx⟩]) = (if (Op.bytesLess xn last || xn == last) = true then 6 else if valueR xv = false then 1 else 0) := by rw [HPX.out, if_neg (by simp)]; rfl
      have E5 := Lib.hid e5
      clear e5 HPX
      gi_wp2
      refine ⟨trivial, (CallsIn.inRound l (callsIn_wide.2 HN.out)).mono ?_⟩
      rintro e w2 ⟨rfl, hb2⟩
      have n2 := boxed_below hn hb2
      have m2 := boxed_below hr0 hb2
      have b2 := blk_below bX hb2
      have hB2 := hB.trans (hb2.mono hB.size)
      have K2 := ko_below hb2
      have L2 : Below w.heap.size W w2 := hb2.mono hB.size
      have hs2 := hB2.size
      have hs3 := n2.lt
      clear hb2 HN hn hr0 bX cx0 hB
      have c3 := n2.cell
      have f3 := n2.frozen
      have c4 := m2.cell
      have f4 := m2.frozen
      have cx0 := blk_cell (j := 0) b2 rfl
      have cx1 := blk_cell (j := 1) b2 rfl
      have HV := Lib.hid (value_any xv w2)
      have g1 : ByteArray.toList ⟨xn.toArray⟩ = xn := by rw [ByteArray.toList_eq]
      have g2 : ByteArray.toList ⟨last.toArray⟩ = last := by rw [ByteArray.toList_eq]
      obtain ⟨bl, hbl⟩ : ∃ bl, (Op.bytesLess xn last || xn == last) = bl := ⟨_, rfl⟩
      rw [hbl] at E5
      cases bl
      · cases hvl : valueR xv
        · rw [hvl] at E5 HV
          have e5 : chk [] (pre ++ [⟨(xn, xv), hx⟩]) = 1 := by rw [E5.out]; simp
          have F5 := Lib.hid e5
          clear e5 E5
          gi_wp2
          refine ⟨trivial, (CallsIn.inRound l (callsIn_wide.2 HV.out)).mono ?_⟩
          rintro e w3 ⟨rfl, hb3⟩
          have n3 := boxed_below n2 hb3
          have c3 := n3.cell
          have f3 := n3.frozen
          have hB3 := (hB2.trans (hb3.mono hs2)).setCell (p := ⟨w.heap.size, 0, none⟩) (Nat.le_refl _) (.int .i64 1)
          have K3 := (K2.trans (ko_below hb3)).trans (KeepsOthers.setCell w3 ⟨w.heap.size, 0, none⟩ (.int .i64 1))
          clear hb3
          gi_wp2
          exact ⟨K3.from _, ⟨rfl, by rw [F5.out]; decide⟩, by rw [F5.out]; exact n3.set _, hB3⟩
        · rw [hvl] at E5 HV
          have e5 : chk [] (pre ++ [⟨(xn, xv), hx⟩]) = 0 := by rw [E5.out]; simp
          have F5 := Lib.hid e5
          clear e5 E5
          gi_wp2
          refine ⟨trivial, (CallsIn.inRound l (callsIn_wide.2 HV.out)).mono ?_⟩
          rintro e w3 ⟨rfl, hb3⟩
          have n3 := boxed_below n2 hb3
          have m3 := boxed_below m2 hb3
          have b3 := blk_below b2 hb3
          have c3 := n3.cell
          have f3 := n3.frozen
          have c4 := m3.cell
          have f4 := m3.frozen
          have cx0 := blk_cell (j := 0) b3 rfl
          have hB3 := (hB2.trans (hb3.mono hs2)).setCell (p := ⟨w.heap.size + 1, 0, none⟩) (by simp) (.string ⟨xn.toArray⟩)
          have K3 := (K2.trans (ko_below hb3)).trans (KeepsOthers.setCell w3 ⟨w.heap.size + 1, 0, none⟩ (.string ⟨xn.toArray⟩))
          have L3 := (L2.trans (hb3.mono hs2)).setCell (p := ⟨w.heap.size + 1, 0, none⟩) (by simp) (.string ⟨xn.toArray⟩)
          clear hb3
          gi_wp2
          exact ⟨K3.from _, L3, F5.out, n3.other (by omega) _, by rw [HLS.out]; exact m3.set _, hB3⟩
      · have e5 : chk [] (pre ++ [⟨(xn, xv), hx⟩]) = 6 := by rw [E5.out]; simp
        have F5 := Lib.hid e5
        have hB3 := hB2.setCell (p := ⟨w.heap.size, 0, none⟩) (Nat.le_refl _) (.int .i64 6)
        have K3 := K2.trans (KeepsOthers.setCell w2 ⟨w.heap.size, 0, none⟩ (.int .i64 6))
        clear e5 E5
        gi_wp2
        exact ⟨K3.from _, ⟨rfl, by rw [F5.out]; decide⟩, by rw [F5.out]; exact n2.set _, hB3⟩
  case done =>
    rintro D ys W hD rfl ⟨hp, hn, hr0, hB⟩ hK
    have c4 := hn.cell
    have f4 := hn.frozen
    have HP := Lib.hid hp
    clear hp
    gi_wp2
    have hn1 := hn.set (.int .i64 0)
    have hK' := (KeepsOthers.setCell W ⟨w.heap.size, 0, none⟩ (.int .i64 0)).same D _ hK rfl
    refine ⟨by simp, .inl ⟨_, _, rfl, run_takeDeferred hK', ?_⟩⟩
    have hc5 := cell_kept hn1.cell (grownBy_putObj' _ D (.deferred none)) (fun r e => by cases e; exact ⟨_, hK', rfl⟩)
    exact ⟨.int .i64 0, by simp [results, Tryd.f39, go_sem, hc5], by rw [hR.out, HP.out], (hB.setCell (p := ⟨w.heap.size, 0, none⟩) (by simp) _).trans (belowK_b (w := w) (Nat.le_refl _) _ D _ _ (by rw [hsz] at hD; omega) hK' rfl rfl)⟩
  case stop =>
    rintro D c pre W hD ⟨t, rfl⟩ ⟨⟨rfl, hne⟩, hr0, hB⟩ hK
    have c4 := hr0.cell
    have HE := Lib.hid hne
    clear hne
    gi_wp2
    refine ⟨by simp, .inl ⟨_, _, rfl, run_takeDeferred hK, ?_⟩⟩
    have hc5 := cell_kept c4 (grownBy_putObj' _ D (.deferred none)) (fun r e => by cases e; exact ⟨_, hK, rfl⟩)
    exact ⟨.int .i64 (chk [] pre), by simp [results, Tryd.f39, go_sem, hc5], by rw [hR.out, chk_pre _ _ _ HE.out], hB.trans (belowK_b (w := w) (Nat.le_refl _) W D _ _ (by rw [hsz] at hD; omega) hK rfl rfl)⟩
def numV (va tm sr sq : Int) : Value := .agg #[.int .i64 va, .int .i64 tm, .int .i64 sr, .int .i64 sq]
theorem numbersOf_any (sl : Value) (va tm sr sq : Int) (w : World) : Calls Tryd.prog 35 #[sampV sl va tm sr sq] w fun e w' => e = .returned (numV va tm sr sq) ∧ Below w.heap.size w w' := by
  unfold sampV numV
  go_enter Tryd.func35, Tryd.ntmps35
  go_wp2
  refine bodyPost_ret (by simp [results, Tryd.results35, go_sem]; try rfl) rfl ?_
  exact ⟨rfl, by go_grown⟩
theorem spanCheck_any (t : Int) (w : World) : Calls Tryd.prog 23 #[.int .i64 t] w fun e w' => e = .returned (.int .i64 (timeR t)) ∧ w = w' := by
  by_cases h1 : t < 0
  · have R : Hid (timeR t = 1) := by unfold Hid timeR; rw [if_pos (.inl h1)]
    go_enter Tryd.func23, Tryd.ntmps23
    go_wp2
    go_ret
    exact ⟨by rw [R.out]; rfl, rfl⟩
  · by_cases h2 : 4398046511104 < t
    · have R : Hid (timeR t = 1) := by unfold Hid timeR; rw [if_pos (.inr h2)]
      go_enter Tryd.func23, Tryd.ntmps23
      go_wp2
      go_ret
      exact ⟨by rw [R.out]; rfl, rfl⟩
    · have R : Hid (timeR t = 0) := by unfold Hid timeR; rw [if_neg (by omega)]
      go_enter Tryd.func23, Tryd.ntmps23
      go_wp2
      go_ret
      exact ⟨by rw [R.out]; rfl, rfl⟩
set_option maxHeartbeats 2000000 in
theorem check_bad (a : Option Addr) (n cap : Nat) (zs : List SLab) (hreach : zs.length ≤ 100) (va tm sr sq : Int) (w : World) (hI : Labs w.heap.size w (.slice a n cap) zs) (hc : checkR zs ≠ 0) :
    Calls Tryd.prog 34 #[.slice a n cap, numV va tm sr sq] w fun e w' => e = .returned (.int .i64 (sampR zs tm sr sq)) ∧ Below w.heap.size w w' := by
  obtain rfl : n = zs.length := hI.len
  have C := Lib.hid (fun W (hb : Below w.heap.size w W) => check_any a zs.length cap zs hreach W (labs_on hI hb))
  have T := Lib.hid (fun W => spanCheck_any tm W)
  have R : Hid (sampR zs tm sr sq = checkR zs) := by unfold Hid sampR; rw [if_pos hc]
  have c0 : (checkR zs != 0) = true := by simpa using hc
  unfold numV
  clear hI
  go_enter Tryd.func34, Tryd.ntmps34
  go_wp2_with fail
  refine (C.out _ (below_new (Below.refl _ _) _)).mono ?_
  rintro e w1 ⟨rfl, hb1⟩
  have DN : At w1 (w.heap.size) [.int .i64 va, .int .i64 tm, .int .i64 sr, .int .i64 sq] := by have h := (At.new (w) #[.int .i64 va, .int .i64 tm, .int .i64 sr, .int .i64 sq] 81).below hb1; simpa using h
  have B : Below w.heap.size w w1 := below_then (below_new (Below.refl _ _) (.cells #[.int .i64 va, .int .i64 tm, .int .i64 sr, .int .i64 sq] 81)) hb1
  clear hb1
  have aN0 := DN.cell 0 _ rfl
  have aN1 := DN.cell 1 _ rfl
  have aN2 := DN.cell 2 _ rfl
  have aN3 := DN.cell 3 _ rfl
  have nN := DN.lt
  go_wp2
  go_ret
  exact ⟨by rw [R.out]; rfl, B⟩
set_option maxHeartbeats 2000000 in
theorem check_none (a : Option Addr) (n cap : Nat) (zs : List SLab) (hreach : zs.length ≤ 100) (va tm sr sq : Int) (w : World) (hI : Labs w.heap.size w (.slice a n cap) zs) (hc : checkR zs = 0) (hz : zs.length = 0) :
    Calls Tryd.prog 34 #[.slice a n cap, numV va tm sr sq] w fun e w' => e = .returned (.int .i64 (sampR zs tm sr sq)) ∧ Below w.heap.size w w' := by
  obtain rfl : n = zs.length := hI.len
  have C := Lib.hid (fun W (hb : Below w.heap.size w W) => check_any a zs.length cap zs hreach W (labs_on hI hb))
  have T := Lib.hid (fun W => spanCheck_any tm W)
  have R : Hid (sampR zs tm sr sq = 5) := by unfold Hid sampR; rw [if_neg (by rw [hc]; simp), if_pos hz]
  have c0 : checkR zs = 0 := hc
  rw [c0] at C
  obtain rfl := List.eq_nil_of_length_eq_zero hz
  clear hz
  simp only [List.length_nil] at *
  unfold numV
  clear hI
  go_enter Tryd.func34, Tryd.ntmps34
  go_wp2_with fail
  refine (C.out _ (below_new (Below.refl _ _) _)).mono ?_
  rintro e w1 ⟨rfl, hb1⟩
  have DN : At w1 (w.heap.size) [.int .i64 va, .int .i64 tm, .int .i64 sr, .int .i64 sq] := by have h := (At.new (w) #[.int .i64 va, .int .i64 tm, .int .i64 sr, .int .i64 sq] 81).below hb1; simpa using h
  have B : Below w.heap.size w w1 := below_then (below_new (Below.refl _ _) (.cells #[.int .i64 va, .int .i64 tm, .int .i64 sr, .int .i64 sq] 81)) hb1
  clear hb1
  have aN0 := DN.cell 0 _ rfl
  have aN1 := DN.cell 1 _ rfl
  have aN2 := DN.cell 2 _ rfl
  have aN3 := DN.cell 3 _ rfl
  have nN := DN.lt
  go_wp2
  go_ret
  exact ⟨by rw [R.out]; rfl, B⟩
set_option maxHeartbeats 2000000 in
theorem check_late (a : Option Addr) (n cap : Nat) (zs : List SLab) (hreach : zs.length ≤ 100) (va tm sr sq : Int) (w : World) (hI : Labs w.heap.size w (.slice a n cap) zs) (hc : checkR zs = 0) (hz : zs.length ≠ 0) (ht : timeR tm ≠ 0) :
    Calls Tryd.prog 34 #[.slice a n cap, numV va tm sr sq] w fun e w' => e = .returned (.int .i64 (sampR zs tm sr sq)) ∧ Below w.heap.size w w' := by
  obtain rfl : n = zs.length := hI.len
  have C := Lib.hid (fun W (hb : Below w.heap.size w W) => check_any a zs.length cap zs hreach W (labs_on hI hb))
  have T := Lib.hid (fun W => spanCheck_any tm W)
  have R : Hid (sampR zs tm sr sq = timeR tm) := by unfold Hid sampR; rw [if_neg (by rw [hc]; simp), if_neg hz, if_pos ht]
  have c0 : checkR zs = 0 := hc
  rw [c0] at C
  have z0 : ((zs.length : Int) == 0) = false := by rw [beq_eq_false_iff_ne]; omega
  have t0 : (timeR tm != 0) = true := by simpa using ht
  unfold numV
  clear hI
  go_enter Tryd.func34, Tryd.ntmps34
  go_wp2_with fail
  refine (C.out _ (below_new (Below.refl _ _) _)).mono ?_
  rintro e w1 ⟨rfl, hb1⟩
  have DN : At w1 (w.heap.size) [.int .i64 va, .int .i64 tm, .int .i64 sr, .int .i64 sq] := by have h := (At.new (w) #[.int .i64 va, .int .i64 tm, .int .i64 sr, .int .i64 sq] 81).below hb1; simpa using h
  have B : Below w.heap.size w w1 := below_then (below_new (Below.refl _ _) (.cells #[.int .i64 va, .int .i64 tm, .int .i64 sr, .int .i64 sq] 81)) hb1
  clear hb1
  have aN0 := DN.cell 0 _ rfl
  have aN1 := DN.cell 1 _ rfl
  have aN2 := DN.cell 2 _ rfl
  have aN3 := DN.cell 3 _ rfl
  have nN := DN.lt
  go_wp2_with fail
  refine (T.out _).mono ?_
  rintro e w2 ⟨rfl, rfl⟩
  go_wp2
  go_ret
  exact ⟨by rw [R.out]; rfl, B⟩
set_option maxHeartbeats 2000000 in
theorem check_src0 (a : Option Addr) (n cap : Nat) (zs : List SLab) (hreach : zs.length ≤ 100) (va tm sr sq : Int) (w : World) (hI : Labs w.heap.size w (.slice a n cap) zs) (hc : checkR zs = 0) (hz : zs.length ≠ 0) (ht : timeR tm = 0) (h1 : sr < 1) :
    Calls Tryd.prog 34 #[.slice a n cap, numV va tm sr sq] w fun e w' => e = .returned (.int .i64 (sampR zs tm sr sq)) ∧ Below w.heap.size w w' := by
  obtain rfl : n = zs.length := hI.len
  have C := Lib.hid (fun W (hb : Below w.heap.size w W) => check_any a zs.length cap zs hreach W (labs_on hI hb))
  have T := Lib.hid (fun W => spanCheck_any tm W)
  have R : Hid (sampR zs tm sr sq = 1) := by unfold Hid sampR; rw [if_neg (by rw [hc]; simp), if_neg hz, if_neg (by rw [ht]; simp), if_pos (by omega)]
  have c0 : checkR zs = 0 := hc
  rw [c0] at C
  have z0 : ((zs.length : Int) == 0) = false := by rw [beq_eq_false_iff_ne]; omega
  rw [ht] at T
  unfold numV
  clear hI
  go_enter Tryd.func34, Tryd.ntmps34
  go_wp2_with fail
  refine (C.out _ (below_new (Below.refl _ _) _)).mono ?_
  rintro e w1 ⟨rfl, hb1⟩
  have DN : At w1 (w.heap.size) [.int .i64 va, .int .i64 tm, .int .i64 sr, .int .i64 sq] := by have h := (At.new (w) #[.int .i64 va, .int .i64 tm, .int .i64 sr, .int .i64 sq] 81).below hb1; simpa using h
  have B : Below w.heap.size w w1 := below_then (below_new (Below.refl _ _) (.cells #[.int .i64 va, .int .i64 tm, .int .i64 sr, .int .i64 sq] 81)) hb1
  clear hb1
  have aN0 := DN.cell 0 _ rfl
  have aN1 := DN.cell 1 _ rfl
  have aN2 := DN.cell 2 _ rfl
  have aN3 := DN.cell 3 _ rfl
  have nN := DN.lt
  go_wp2_with fail
  refine (T.out _).mono ?_
  rintro e w2 ⟨rfl, rfl⟩
  go_wp2
  go_ret
  exact ⟨by rw [R.out]; rfl, B⟩
set_option maxHeartbeats 2000000 in
theorem check_src1 (a : Option Addr) (n cap : Nat) (zs : List SLab) (hreach : zs.length ≤ 100) (va tm sr sq : Int) (w : World) (hI : Labs w.heap.size w (.slice a n cap) zs) (hc : checkR zs = 0) (hz : zs.length ≠ 0) (ht : timeR tm = 0) (h1 : ¬ sr < 1) (h2 : 16 < sr) :
    Calls Tryd.prog 34 #[.slice a n cap, numV va tm sr sq] w fun e w' => e = .returned (.int .i64 (sampR zs tm sr sq)) ∧ Below w.heap.size w w' := by
  obtain rfl : n = zs.length := hI.len
  have C := Lib.hid (fun W (hb : Below w.heap.size w W) => check_any a zs.length cap zs hreach W (labs_on hI hb))
  have T := Lib.hid (fun W => spanCheck_any tm W)
  have R : Hid (sampR zs tm sr sq = 1) := by unfold Hid sampR; rw [if_neg (by rw [hc]; simp), if_neg hz, if_neg (by rw [ht]; simp), if_pos (by omega)]
  have c0 : checkR zs = 0 := hc
  rw [c0] at C
  have z0 : ((zs.length : Int) == 0) = false := by rw [beq_eq_false_iff_ne]; omega
  rw [ht] at T
  unfold numV
  clear hI
  go_enter Tryd.func34, Tryd.ntmps34
  go_wp2_with fail
  refine (C.out _ (below_new (Below.refl _ _) _)).mono ?_
  rintro e w1 ⟨rfl, hb1⟩
  have DN : At w1 (w.heap.size) [.int .i64 va, .int .i64 tm, .int .i64 sr, .int .i64 sq] := by have h := (At.new (w) #[.int .i64 va, .int .i64 tm, .int .i64 sr, .int .i64 sq] 81).below hb1; simpa using h
  have B : Below w.heap.size w w1 := below_then (below_new (Below.refl _ _) (.cells #[.int .i64 va, .int .i64 tm, .int .i64 sr, .int .i64 sq] 81)) hb1
  clear hb1
  have aN0 := DN.cell 0 _ rfl
  have aN1 := DN.cell 1 _ rfl
  have aN2 := DN.cell 2 _ rfl
  have aN3 := DN.cell 3 _ rfl
  have nN := DN.lt
  go_wp2_with fail
  refine (T.out _).mono ?_
  rintro e w2 ⟨rfl, rfl⟩
  go_wp2
  go_ret
  exact ⟨by rw [R.out]; rfl, B⟩
set_option maxHeartbeats 2000000 in
theorem check_seq0 (a : Option Addr) (n cap : Nat) (zs : List SLab) (hreach : zs.length ≤ 100) (va tm sr sq : Int) (w : World) (hI : Labs w.heap.size w (.slice a n cap) zs) (hc : checkR zs = 0) (hz : zs.length ≠ 0) (ht : timeR tm = 0) (h1 : ¬ sr < 1) (h2 : ¬ 16 < sr) (h3 : sq < 1) :
    Calls Tryd.prog 34 #[.slice a n cap, numV va tm sr sq] w fun e w' => e = .returned (.int .i64 (sampR zs tm sr sq)) ∧ Below w.heap.size w w' := by
  obtain rfl : n = zs.length := hI.len
  have C := Lib.hid (fun W (hb : Below w.heap.size w W) => check_any a zs.length cap zs hreach W (labs_on hI hb))
  have T := Lib.hid (fun W => spanCheck_any tm W)
  have R : Hid (sampR zs tm sr sq = 1) := by unfold Hid sampR; rw [if_neg (by rw [hc]; simp), if_neg hz, if_neg (by rw [ht]; simp), if_pos (by omega)]
  have c0 : checkR zs = 0 := hc
  rw [c0] at C
  have z0 : ((zs.length : Int) == 0) = false := by rw [beq_eq_false_iff_ne]; omega
  rw [ht] at T
  unfold numV
  clear hI
  go_enter Tryd.func34, Tryd.ntmps34
  go_wp2_with fail
  refine (C.out _ (below_new (Below.refl _ _) _)).mono ?_
  rintro e w1 ⟨rfl, hb1⟩
  have DN : At w1 (w.heap.size) [.int .i64 va, .int .i64 tm, .int .i64 sr, .int .i64 sq] := by have h := (At.new (w) #[.int .i64 va, .int .i64 tm, .int .i64 sr, .int .i64 sq] 81).below hb1; simpa using h
  have B : Below w.heap.size w w1 := below_then (below_new (Below.refl _ _) (.cells #[.int .i64 va, .int .i64 tm, .int .i64 sr, .int .i64 sq] 81)) hb1
  clear hb1
  have aN0 := DN.cell 0 _ rfl
  have aN1 := DN.cell 1 _ rfl
  have aN2 := DN.cell 2 _ rfl
  have aN3 := DN.cell 3 _ rfl
  have nN := DN.lt
  go_wp2_with fail
  refine (T.out _).mono ?_
  rintro e w2 ⟨rfl, rfl⟩
  go_wp2
  go_ret
  exact ⟨by rw [R.out]; rfl, B⟩
set_option maxHeartbeats 2000000 in
theorem check_seq1 (a : Option Addr) (n cap : Nat) (zs : List SLab) (hreach : zs.length ≤ 100) (va tm sr sq : Int) (w : World) (hI : Labs w.heap.size w (.slice a n cap) zs) (hc : checkR zs = 0) (hz : zs.length ≠ 0) (ht : timeR tm = 0) (h1 : ¬ sr < 1) (h2 : ¬ 16 < sr) (h3 : ¬ sq < 1) (h4 : 9007199254740992 < sq) :
    Calls Tryd.prog 34 #[.slice a n cap, numV va tm sr sq] w fun e w' => e = .returned (.int .i64 (sampR zs tm sr sq)) ∧ Below w.heap.size w w' := by
  obtain rfl : n = zs.length := hI.len
  have C := Lib.hid (fun W (hb : Below w.heap.size w W) => check_any a zs.length cap zs hreach W (labs_on hI hb))
  have T := Lib.hid (fun W => spanCheck_any tm W)
  have R : Hid (sampR zs tm sr sq = 1) := by unfold Hid sampR; rw [if_neg (by rw [hc]; simp), if_neg hz, if_neg (by rw [ht]; simp), if_pos (by omega)]
  have c0 : checkR zs = 0 := hc
  rw [c0] at C
  have z0 : ((zs.length : Int) == 0) = false := by rw [beq_eq_false_iff_ne]; omega
  rw [ht] at T
  unfold numV
  clear hI
  go_enter Tryd.func34, Tryd.ntmps34
  go_wp2_with fail
  refine (C.out _ (below_new (Below.refl _ _) _)).mono ?_
  rintro e w1 ⟨rfl, hb1⟩
  have DN : At w1 (w.heap.size) [.int .i64 va, .int .i64 tm, .int .i64 sr, .int .i64 sq] := by have h := (At.new (w) #[.int .i64 va, .int .i64 tm, .int .i64 sr, .int .i64 sq] 81).below hb1; simpa using h
  have B : Below w.heap.size w w1 := below_then (below_new (Below.refl _ _) (.cells #[.int .i64 va, .int .i64 tm, .int .i64 sr, .int .i64 sq] 81)) hb1
  clear hb1
  have aN0 := DN.cell 0 _ rfl
  have aN1 := DN.cell 1 _ rfl
  have aN2 := DN.cell 2 _ rfl
  have aN3 := DN.cell 3 _ rfl
  have nN := DN.lt
  go_wp2_with fail
  refine (T.out _).mono ?_
  rintro e w2 ⟨rfl, rfl⟩
  go_wp2
  go_ret
  exact ⟨by rw [R.out]; rfl, B⟩
set_option maxHeartbeats 2000000 in
theorem check_good (a : Option Addr) (n cap : Nat) (zs : List SLab) (hreach : zs.length ≤ 100) (va tm sr sq : Int) (w : World) (hI : Labs w.heap.size w (.slice a n cap) zs) (hc : checkR zs = 0) (hz : zs.length ≠ 0) (ht : timeR tm = 0) (h1 : ¬ sr < 1) (h2 : ¬ 16 < sr) (h3 : ¬ sq < 1) (h4 : ¬ 9007199254740992 < sq) :
    Calls Tryd.prog 34 #[.slice a n cap, numV va tm sr sq] w fun e w' => e = .returned (.int .i64 (sampR zs tm sr sq)) ∧ Below w.heap.size w w' := by
  obtain rfl : n = zs.length := hI.len
  have C := Lib.hid (fun W (hb : Below w.heap.size w W) => check_any a zs.length cap zs hreach W (labs_on hI hb))
  have T := Lib.hid (fun W => spanCheck_any tm W)
  have R : Hid (sampR zs tm sr sq = 0) := by unfold Hid sampR; rw [if_neg (by rw [hc]; simp), if_neg hz, if_neg (by rw [ht]; simp), if_neg (by omega)]
  have c0 : checkR zs = 0 := hc
  rw [c0] at C
  have z0 : ((zs.length : Int) == 0) = false := by rw [beq_eq_false_iff_ne]; omega
  rw [ht] at T
  unfold numV
  clear hI
  go_enter Tryd.func34, Tryd.ntmps34
  go_wp2_with fail
  refine (C.out _ (below_new (Below.refl _ _) _)).mono ?_
  rintro e w1 ⟨rfl, hb1⟩
  have DN : At w1 (w.heap.size) [.int .i64 va, .int .i64 tm, .int .i64 sr, .int .i64 sq] := by have h := (At.new (w) #[.int .i64 va, .int .i64 tm, .int .i64 sr, .int .i64 sq] 81).below hb1; simpa using h
  have B : Below w.heap.size w w1 := below_then (below_new (Below.refl _ _) (.cells #[.int .i64 va, .int .i64 tm, .int .i64 sr, .int .i64 sq] 81)) hb1
  clear hb1
  have aN0 := DN.cell 0 _ rfl
  have aN1 := DN.cell 1 _ rfl
  have aN2 := DN.cell 2 _ rfl
  have aN3 := DN.cell 3 _ rfl
  have nN := DN.lt
  go_wp2_with fail
  refine (T.out _).mono ?_
  rintro e w2 ⟨rfl, rfl⟩
  go_wp2
  go_ret
  exact ⟨by rw [R.out]; rfl, B⟩
theorem samp_any (a : Option Addr) (n cap : Nat) (zs : List SLab) (hreach : zs.length ≤ 100) (va tm sr sq : Int) (w : World) (hI : Labs w.heap.size w (.slice a n cap) zs) :
    Calls Tryd.prog 34 #[.slice a n cap, numV va tm sr sq] w fun e w' => e = .returned (.int .i64 (sampR zs tm sr sq)) ∧ Below w.heap.size w w' := by
  by_cases hc : checkR zs = 0
  · by_cases hz : zs.length = 0
    · exact check_none a n cap zs hreach va tm sr sq w hI hc hz
    · by_cases ht : timeR tm = 0
      · by_cases h1 : sr < 1
        · exact check_src0 a n cap zs hreach va tm sr sq w hI hc hz ht h1
        · by_cases h2 : 16 < sr
          · exact check_src1 a n cap zs hreach va tm sr sq w hI hc hz ht h1 h2
          · by_cases h3 : sq < 1
            · exact check_seq0 a n cap zs hreach va tm sr sq w hI hc hz ht h1 h2 h3
            · by_cases h4 : 9007199254740992 < sq
              · exact check_seq1 a n cap zs hreach va tm sr sq w hI hc hz ht h1 h2 h3 h4
              · exact check_good a n cap zs hreach va tm sr sq w hI hc hz ht h1 h2 h3 h4
      · exact check_late a n cap zs hreach va tm sr sq w hI hc hz ht
  · exact check_bad a n cap zs hreach va tm sr sq w hI hc
set_option maxHeartbeats 4000000 in
theorem lcheck_any (a : Option Addr) (n cap : Nat) (zs : List SLab) (hreach : zs.length ≤ 100) (va tm sr sq : Int) (w : World) (hI : Labs w.heap.size w (.slice a n cap) zs) :
    Calls Tryd.prog 27 #[sampV (.slice a n cap) va tm sr sq] w fun e w' => e = .returned (.int .i64 (sampR zs tm sr sq)) ∧ Below w.heap.size w w' := by
  obtain rfl : n = zs.length := hI.len
  have NO := Lib.hid (fun W => numbersOf_any (.slice a zs.length cap) va tm sr sq W)
  have C := Lib.hid (fun W (hb : Below w.heap.size w W) => samp_any a zs.length cap zs hreach va tm sr sq W (labs_on hI hb))
  unfold numV sampV at *
  go_enter Tryd.func27, Tryd.ntmps27
  have DP : At ((w).alloc (.cells #[.slice a zs.length cap, .int .i64 va, .int .i64 tm, .int .i64 sr, .int .i64 sq] 36)) (w.heap.size) [.slice a zs.length cap, .int .i64 va, .int .i64 tm, .int .i64 sr, .int .i64 sq] := by have h := (At.new (w) #[.slice a zs.length cap, .int .i64 va, .int .i64 tm, .int .i64 sr, .int .i64 sq] 36); simpa using h
  have B : Below w.heap.size w ((w).alloc (.cells #[.slice a zs.length cap, .int .i64 va, .int .i64 tm, .int .i64 sr, .int .i64 sq] 36)) := below_new (Below.refl _ _) (.cells #[.slice a zs.length cap, .int .i64 va, .int .i64 tm, .int .i64 sr, .int .i64 sq] 36)
  go_wp2_with fail
  generalize (w).alloc (.cells #[.slice a zs.length cap, .int .i64 va, .int .i64 tm, .int .i64 sr, .int .i64 sq] 36) = W2 at *
  have aP0 := DP.cell 0 _ rfl
  have aP1 := DP.cell 1 _ rfl
  have aP2 := DP.cell 2 _ rfl
  have aP3 := DP.cell 3 _ rfl
  have aP4 := DP.cell 4 _ rfl
  have nP := DP.lt
  have LB : Labs W2.heap.size W2 (.slice a zs.length cap) zs := labs_on hI B
  refine wp_region_held_drew (S := fun w' => w'.cell? ⟨w.heap.size, 0, none⟩ = some (.slice a zs.length cap) ∧ w'.cell? ⟨w.heap.size, 1, none⟩ = some (.int .i64 va) ∧ w'.cell? ⟨w.heap.size, 2, none⟩ = some (.int .i64 tm) ∧ w'.cell? ⟨w.heap.size, 3, none⟩ = some (.int .i64 sr) ∧ w'.cell? ⟨w.heap.size, 4, none⟩ = some (.int .i64 sq) ∧ Below w.heap.size w w') (by kernel_rfl) ?_ (fun hS => ?_)
  · (try dsimp only)
    (repeat' apply And.intro) <;> first | go_cell | exact B.drew
  refine' wpAnyH_take (i := 0) (oi := ?oiT0) (v := ?vT0) ?hiT0 (by kernel_rfl) (by kernel_rfl) (by kernel_rfl) ?hQT0 ?hyT0 hS ?restT0
  case hiT0 =>
    simp only [List.getElem?_toArray, List.getElem?_cons_succ, List.getElem?_cons_zero]
    exact rfl
  case hQT0 => exact fun _ _ _ h => h
  case hyT0 =>
    refine Or.inl ⟨by rfl, ?_⟩
    intro w hSw
    (try dsimp only at hSw)
    go_simp
    (try with_reducible rfl)
  (try simp only [Act.put, List.setIfInBounds_toArray, List.set_cons_zero, List.set_cons_succ])
  refine' wpAnyH_take (i := 1) (oi := ?oiT1) (v := ?vT1) ?hiT1 (by kernel_rfl) (by kernel_rfl) (by kernel_rfl) ?hQT1 ?hyT1 hS ?restT1
  case hiT1 =>
    simp only [List.getElem?_toArray, List.getElem?_cons_succ, List.getElem?_cons_zero]
    exact rfl
  case hQT1 => exact fun _ _ _ h => h
  case hyT1 =>
    refine Or.inl ⟨by rfl, ?_⟩
    intro w hSw
    (try dsimp only at hSw)
    go_simp
    (try with_reducible rfl)
  (try simp only [Act.put, List.setIfInBounds_toArray, List.set_cons_zero, List.set_cons_succ])
  refine' wpAnyH_take (i := 2) (oi := ?oiT2) (v := ?vT2) ?hiT2 (by kernel_rfl) (by kernel_rfl) (by kernel_rfl) ?hQT2 ?hyT2 hS ?restT2
  case hiT2 =>
    simp only [List.getElem?_toArray, List.getElem?_cons_succ, List.getElem?_cons_zero]
    exact rfl
  case hQT2 => exact fun _ _ _ h => h
  case hyT2 =>
    refine Or.inl ⟨by rfl, ?_⟩
    intro w hSw
    (try dsimp only at hSw)
    go_simp
    (try with_reducible rfl)
  (try simp only [Act.put, List.setIfInBounds_toArray, List.set_cons_zero, List.set_cons_succ])
  refine wpAnyH_ready (rs := [3]) (by kernel_rfl) (by simp) ?_
  refine' AllReadyH.cons (o := ?ooC3) ?hoC3 (fun K hK => ?stepC3) AllReadyH.nil
  case hoC3 =>
    simp only [List.getElem?_toArray, List.getElem?_cons_succ, List.getElem?_cons_zero]
    exact rfl
  go_simp
  go_at_call 35
  refine (NO.out _).mono ?_
  rintro e w1 ⟨rfl, hb1⟩
  go_wp2_with fail
  refine hK.out _ _ ?_ (fun hS => ?_)
  · (try dsimp only)
    go_split_ands
    (repeat' apply And.intro) <;> first | (refine cell_later hb1 ?_; with_reducible assumption) | (refine below_then ?_ hb1; with_reducible assumption)
  clear hK K hb1
  (try simp only [Act.put, List.setIfInBounds_toArray, List.set_cons_zero, List.set_cons_succ])
  refine wpAnyH_ready (rs := [4]) (by kernel_rfl) (by simp) ?_
  refine' AllReadyH.cons (o := ?oo4) ?ho4 (fun K hK => ?st4) AllReadyH.nil
  case ho4 =>
    simp only [List.getElem?_toArray, List.getElem?_cons_succ, List.getElem?_cons_zero]
    exact rfl
  go_simp
  go_at_call 34
  refine (C.out _ hS.2.2.2.2.2).mono ?_
  rintro e w3 ⟨rfl, hb3⟩
  go_wp2_with fail
  refine hK.out _ _ ?_ (fun hS => ?_)
  · (try dsimp only)
    go_split_ands
    (repeat' apply And.intro) <;> first | (refine cell_later hb3 ?_; with_reducible assumption) | (refine below_then ?_ hb3; with_reducible assumption)
  clear hK K hb3
  (try simp only [Act.put, List.setIfInBounds_toArray, List.set_cons_zero, List.set_cons_succ])
  refine' wpAnyH_take (i := 5) (oi := ?oi5) (v := ?v5) ?hi5 (by kernel_rfl) (by kernel_rfl) (by kernel_rfl) ?hQ5 ?hy5 hS ?rest5
  case hi5 =>
    simp only [List.getElem?_toArray, List.getElem?_cons_succ, List.getElem?_cons_zero]
    exact rfl
  case hQ5 => exact fun _ _ _ h => h
  case hy5 =>
    refine Or.inl ⟨by rfl, ?_⟩
    intro w hSw
    (try dsimp only at hSw)
    go_simp
    (try with_reducible rfl)
  (try simp only [Act.put, List.setIfInBounds_toArray, List.set_cons_zero, List.set_cons_succ])
  refine wpAnyH_done (by kernel_rfl) ?_ _
  have hB := hS.2.2.2.2.2
  clear hS
  go_wp2
  go_ret
  exact ⟨rfl, hB⟩
end Go.Proofs.YtoodcaonlfeleaaDoor
