/- journal.records: the records from the front on, and where each ends: the iterator's contract. -/
import Derived.Test.YteddlpcnefogpaaJnF
import Derived.Test.YteddlpcnefogpaaRangeS
namespace Go.Proofs.Yteddlpcnefogpaa
open Go Go.Proofs Go.RowKit Go.Shelf
set_option maxRecDepth 100000
attribute [local go_sem] Oper.semAt_some
def Blk (W : World) (B : Nat) (cs : Array Value) (T : TypeId) : Prop := W.heap[B]? = some (.cells cs T (0, 0))
theorem blk_own {β : Type} (B : Nat) (T : TypeId) (cs : Array Value) : Own (fun (_ : β) W => Blk W B cs T) := fun s X Y row hs hg hrow =>
  (hg.block B (Array.getElem?_eq_some_iff.1 hs).1 (fun e' => by obtain ⟨o, ho, hc⟩ := hrow B e'.symm; rw [show X.heap[B]? = _ from hs] at ho; cases ho; cases hc)).trans hs
theorem blk_cell {W : World} {B j : Nat} {cs : Array Value} {t : TypeId} {v : Value} (h : Blk W B cs t) (hj : cs[j]? = some v) : W.cell? ⟨B, j, none⟩ = some v := by
  simp [World.cell?, show W.heap[B]? = _ from h, hj]
theorem grown_below {W w2 : World} (hb : Below W.heap.size W w2) : W.grownBy w2 none := ⟨hb.os, hb.tape, hb.output, hb.size, fun k hk _ => hb.block k hk⟩
theorem own_below {β : Type} {B : Nat} {J : β → World → Prop} (h : OwnFrom B J) {s : β} {W w2 : World} (hj : J s W) (hb : Below W.heap.size W w2) : J s w2 := h s W w2 none hj (grown_below hb) (fun r e => by cases e)
theorem KeepsT.dat {T : TypeId} {B : Nat} {W W' : World} (h : KeepsT T B W W') (hT : T ≠ 5) {dv : Value} {d : List UInt8} (hd : Dat B W dv d) : Dat B W' dv d :=
  ⟨⟨hd.1.1, hd.1.2.imp id (fun ⟨g, cap, cur, q1, q2, q3, q4⟩ => ⟨g, cap, cur, q1, q2, h.same g _ q2 q3 (fun c fz e => by injection e with _ e2 _; exact hT e2.symm), q4⟩)⟩, hd.2⟩
theorem dat_below {B : Nat} {W W' : World} {dv : Value} {d : List UInt8} (hd : Dat B W dv d) (h : Below W.heap.size W W') : Dat B W' dv d := ⟨hd.1.kept (grown_below h) (by
  rcases q : dv.ownBlock with _ | g
  · exact .inl rfl
  · exact .inr (fun e => by cases e)), hd.2⟩
/-- what is handed on: a record, where its bytes lie, where it ends -/
structure Yl where
  r : Rec
  a : Option Addr
  c : Nat
  e : Int
abbrev Yl.dv (x : Yl) : Value := .slice x.a x.r.2.length x.c
def ylV (x : Yl) : Array Value := #[.agg #[byV x.r.1, x.dv], .int .i64 x.e]
def lastE (xs : List Yl) : Int := match xs.getLast? with | none => 0 | some x => x.e
theorem lastE_snoc (xs : List Yl) (x : Yl) : lastE (xs ++ [x]) = x.e := by unfold lastE; simp
/-- two blocks lie as they lay -/
def Same2 (b c : Nat) (A B : World) : Prop := B.heap[b]? = A.heap[b]? ∧ B.heap[c]? = A.heap[c]?
theorem same2_t {b c : Nat} {A B C : World} (h : Same2 b c A B) (k : Same2 b c B C) : Same2 b c A C := ⟨k.1.trans h.1, k.2.trans h.2⟩
theorem same2_below {b c n : Nat} {A B : World} (h : Below n A B) (hb : b < n) (hc : c < n) : Same2 b c A B := ⟨h.block b hb, h.block c hc⟩
/-- all of them: the scan's -/
def YAll (B : Nat) (l : List UInt8) (xs : List Yl) (W : World) : Prop := xs.map (·.r) = scanR l ∧ lastE xs = (endR (scanR l) : Int) ∧ ∀ x ∈ xs, Dat B W x.dv x.r.2
set_option maxHeartbeats 8000000 in
theorem records_stops (Bs b off cap : Nat) (l : List UInt8) (hcap : l.length ≤ cap) (hbig : l.length ≤ 1099511627776) (w : World) (hBs : Bs < w.heap.size) (hb : b < w.heap.size)
    (hs : w.cell? ⟨Bs, 0, none⟩ = some (.slice (some ⟨b, off, none⟩) l.length cap)) (hc : ∀ j x, l[j]? = some x → w.cell? ⟨b, off + j, none⟩ = some (byV x)) :
    SeqStopsS 42 Fence.wide 8 Try.prog 38 #[.pointer (some ⟨Bs, 0, none⟩)] ylV (Same2 b Bs) (YAll w.heap.size l) (fun _ => True) l.length w := by
  intro L J Jx W hW hJ hJx hY h0
  have hs := (hW.cell (p := ⟨Bs, 0, none⟩) hBs).trans hs
  have hc := fun j x hj => (hW.cell (p := ⟨b, off + j, none⟩) hb).trans (hc j x hj)
  have hBW : Bs < W.heap.size := Nat.lt_of_lt_of_le hBs hW.size
  have hbW : b < W.heap.size := Nat.lt_of_lt_of_le hb hW.size
  have hwz := hW.size
  have HC := Lib.hid hc
  have HS := Lib.hid hs
  have H0 := Lib.hid h0
  have HY := Lib.hid hY
  clear hc hs h0 hY hW
  refine callsIn_of_wp Try.func38 rfl trivial ?_ rfl
  simp only [Try.ntmps38, List.size_toArray, List.length_cons, List.length_nil, Nat.reduceAdd, Nat.reduceSub, Array.replicate_succ, Array.replicate_zero, List.push_toArray, List.append_toArray, List.nil_append, List.cons_append]
  gi_wp2
  gi_loopw [3] (fun i wr => ∃ xs : List Yl, i = .int .i64 (endR (xs.map (·.r)) : Int) ∧ scanR l = xs.map (·.r) ++ scanR (l.drop (endR (xs.map (·.r)))) ∧ endR (xs.map (·.r)) ≤ l.length ∧ J xs wr ∧ (∀ x ∈ xs, Dat W.heap.size wr x.dv x.r.2) ∧ lastE xs = (endR (xs.map (·.r)) : Int) ∧ xs.length ≤ endR (xs.map (·.r)) ∧ Same2 b Bs W wr ∧ W.heap.size ≤ wr.heap.size)
    (fun i _ => l.length - (intOf i).toNat)
  case atStart => exact ⟨[], rfl, by simp [endR], by simp [endR], H0.out, by simp, rfl, by simp, ⟨rfl, rfl⟩, Nat.le_refl _⟩
  case round =>
    obtain ⟨xs, rfl, hsc, hle, hJs, hD, hlast, hxl, hS2, hge⟩ := hrel
    obtain ⟨k, hk⟩ : ∃ k, endR (xs.map (·.r)) = k := ⟨_, rfl⟩
    rw [hk] at hsc hle hlast hxl ⊢
    have hsr : wr.cell? ⟨Bs, 0, none⟩ = some (.slice (some ⟨b, off, none⟩) l.length cap) := (World.cell?_of_block hS2.2).trans HS.out
    have hcr := fun j x hj => (World.cell?_of_block (a := ⟨b, off + j, none⟩) hS2.1).trans (HC.out j x hj)
    have hbr : b < wr.heap.size := Nat.lt_of_lt_of_le hbW hge
    have hBr : Bs < wr.heap.size := Nat.lt_of_lt_of_le hBW hge
    have hend : ∀ w2, Below wr.heap.size wr w2 → firstR (l.drop k) = none → YAll w.heap.size l xs w2 ∧ J xs w2 := fun w2 hb2 hn => by
      have e : scanR l = xs.map (·.r) := by rw [hsc, scanR_none hn, List.append_nil]
      refine ⟨⟨e.symm, ?_, fun x hx => dat_mono (dat_below (hD x hx) hb2) hwz⟩, own_below hJ hJs hb2⟩
      rw [e, hk]; exact hlast
    by_cases hlt : k < l.length
    · have hfirst : Calls Try.prog 39 #[.slice (some ⟨b, off + k, none⟩) (l.length - k) (cap - k)] wr (FirstPost (l.drop k) wr) := by
        have := first_any b (off + k) (cap - k) (l.drop k) wr (by rw [List.length_drop]; omega) (by rw [List.length_drop]; omega) hbr (fun j x hj => by
          rw [List.getElem?_drop] at hj
          have := hcr (k + j) x hj
          rwa [← Nat.add_assoc] at this)
        rwa [List.length_drop] at this
      have HFi := Lib.hid hfirst
      have hck : ¬ cap = k := by omega
      have HE := Lib.hid hend
      have HSC := Lib.hid hsc
      have HD := Lib.hid hD
      have HJ := Lib.hid hJs
      have HK := Lib.hid hk
      clear hfirst hend hsc hD hlast hcr hk hJs
      cases hf : firstR (l.drop k) with
      | none =>
        gi_wp2_with fail
        refine ⟨trivial, (callsIn_wide.2 HFi.out).mono ?_⟩
        intro e w2 hp
        unfold FirstPost at hp
        rw [hf] at hp
        obtain ⟨hb2, rfl⟩ := hp
        have HB2 := Lib.hid hb2
        clear hb2
        gi_wp2
        refine bodyPost_ret (results_none rfl _ _ _) rfl ?_
        exact ⟨⟨_, rfl⟩, .inl ⟨xs, HE.out _ (HB2.out.alloc HB2.out.size _) hf⟩⟩
      | some r =>
        have hstep := scanR_step (by rw [HK.out]; exact HSC.out) (by rw [HK.out]; exact hf)
        have hrl := firstR_len hf
        rw [List.length_drop] at hrl
        have HST := Lib.hid hstep
        clear hstep
        gi_wp2_with fail
        refine ⟨trivial, (callsIn_wide.2 HFi.out).mono ?_⟩
        intro e w2 hp
        unfold FirstPost at hp
        rw [hf] at hp
        obtain ⟨hb2, dv, rfl, hd⟩ := hp
        obtain ⟨da, dc, rfl⟩ := hd.2
        have hz2 := hb2.size
        have hdj : Below wr.heap.size wr (w2.alloc (.cells #[byV r.1, .slice da r.2.length dc] 42)) := hb2.alloc hb2.size _
        have hj3 := own_below hJ HJ.out hdj
        obtain ⟨fn, tmps, assign, body, hy, hR⟩ := HY.out xs ⟨r, da, dc, (k : Int) + (4 + (r.2.length : Int))⟩ _ hj3 (by omega)
        unfold ylV at hy
        have HB2 := Lib.hid hdj
        have HDt := Lib.hid (dat_below hd ((Below.refl _ _).alloc (Nat.le_refl _) (.cells #[byV r.1, .slice da r.2.length dc] 42)))
        clear hb2 hd hdj hj3
        gi_wp2
        have hs2 : Same2 b Bs wr (w2.alloc (.cells #[byV r.1, .slice da r.2.length dc] 42)) := same2_below HB2.out hbr hBr
        have hz3 : wr.heap.size ≤ (w2.alloc (.cells #[byV r.1, .slice da r.2.length dc] 42)).heap.size := HB2.out.size
        have eE : endR ((xs ++ [(⟨r, da, dc, (k : Int) + (4 + (r.2.length : Int))⟩ : Yl)]).map (·.r)) = k + (4 + r.2.length) := by rw [List.map_append, List.map_cons, List.map_nil, endR_snoc, HK.out]
        have HDs : Hid (∀ x ∈ xs ++ [(⟨r, da, dc, (k : Int) + (4 + (r.2.length : Int))⟩ : Yl)], Dat W.heap.size (w2.alloc (.cells #[byV r.1, .slice da r.2.length dc] 42)) x.dv x.r.2) := by
          intro x hx
          rcases List.mem_append.1 hx with q | q
          · exact dat_below (HD.out x q) HB2.out
          · obtain rfl := List.mem_singleton.1 q
            exact dat_mono HDt.out hge
        have HEE := Lib.hid eE
        clear eE
        refine hR.mono ?_
        rintro e W3 (⟨rfl, hJ3, hk3, hkt⟩ | ⟨rfl, hJx3, hkt⟩)
        · have HJ3 := Lib.hid hJ3
          have HKT := Lib.hid hkt
          clear hJ3 hkt
          gi_wp2
          go_roundw
          case rel =>
            refine ⟨xs ++ [⟨r, da, dc, (k : Int) + (4 + (r.2.length : Int))⟩], ?_, ?_, ?_, HJ3.out, fun x hx => HKT.out.dat (by decide) (HDs.out x hx), ?_, ?_, same2_t (same2_t hS2 hs2) hk3, Nat.le_trans (Nat.le_trans hge hz3) HKT.out.size⟩
            · rw [HEE.out]; simp
            · have := HST.out
              rwa [show xs.map (·.r) ++ [r] = (xs ++ [(⟨r, da, dc, (k : Int) + (4 + (r.2.length : Int))⟩ : Yl)]).map (·.r) by simp] at this
            · rw [HEE.out]; omega
            · rw [lastE_snoc, HEE.out]; simp
            · rw [HEE.out, List.length_append]; simp; omega
          case measure => simp [intOf]; omega
        · have HJ3 := Lib.hid hJx3
          clear hJx3 hkt
          gi_wp2
          refine bodyPost_ret (results_none rfl _ _ _) rfl ?_
          exact ⟨⟨_, rfl⟩, .inr ⟨_, trivial, HJ3.out⟩⟩
    · obtain rfl : k = l.length := by omega
      have hfirst : ∀ a cp, Calls Try.prog 39 #[.slice a 0 cp] wr (FirstPost [] wr) := fun a cp => first_few b off cp [] a wr (by simp)
      have hn : firstR (l.drop l.length) = none := by rw [List.drop_length]; rfl
      have HFi := Lib.hid hfirst
      have HE := Lib.hid (fun w2 h => hend w2 h hn)
      clear hfirst hend hsc hD hlast hcr hk hJs
      obtain ⟨A, hA⟩ : ∃ A : Addr, (if cap = l.length then some (⟨b, off, none⟩ : Addr) else some ⟨b, off + l.length, none⟩) = some A := by
        by_cases h : cap = l.length
        · exact ⟨_, if_pos h⟩
        · exact ⟨_, if_neg h⟩
      gi_wp2_with fail
      refine ⟨trivial, (callsIn_wide.2 (HFi.out _ _)).mono ?_⟩
      intro e w2 hp
      unfold FirstPost at hp
      rw [show firstR [] = none from rfl] at hp
      obtain ⟨hb2, rfl⟩ := hp
      have HB2 := Lib.hid hb2
      clear hb2
      gi_wp2
      refine bodyPost_ret (results_none rfl _ _ _) rfl ?_
      exact ⟨⟨_, rfl⟩, .inl ⟨xs, HE.out _ (HB2.out.alloc HB2.out.size _)⟩⟩
end Go.Proofs.Yteddlpcnefogpaa
