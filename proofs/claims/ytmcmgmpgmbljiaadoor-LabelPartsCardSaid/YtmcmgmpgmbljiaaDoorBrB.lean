/- braces: how items are read, as functions (mathematics); texts in memory. -/
import Derived.Test.YtmcmgmpgmbljiaaDoorTakeE
namespace Go.Proofs.YtmcmgmpgmbljiaaDoor
open Go Go.Proofs Go.RowKit Go.Shelf
set_option maxRecDepth 100000
/-- texts in memory -/
def TxAt (n₀ : Nat) (W : World) (sv : Value) (ts : List (List UInt8)) : Prop :=
  ts.length ≤ 1000 ∧ ∃ b off cap, sv = .slice (some ⟨b, off, none⟩) ts.length cap ∧ b < n₀ ∧ ∀ j x, ts[j]? = some x → W.cell? ⟨b, off + j, none⟩ = some (.string ⟨x.toArray⟩)
theorem TxAt.below {n₀ : Nat} {A B : World} {sv : Value} {ts : List (List UInt8)} (h : TxAt n₀ A sv ts) (hb : Below n₀ A B) : TxAt n₀ B sv ts := by
  obtain ⟨hl, b, off, cap, e, h1, h2⟩ := h
  exact ⟨hl, b, off, cap, e, h1, fun j x hj => (hb.cell (p := ⟨b, off + j, none⟩) h1).trans (h2 j x hj)⟩
theorem TxAt.mono {n₀ n₁ : Nat} {A : World} {sv : Value} {ts : List (List UInt8)} (h : TxAt n₀ A sv ts) (hb : n₀ ≤ n₁) : TxAt n₁ A sv ts := by
  obtain ⟨hl, b, off, cap, e, h1, h2⟩ := h
  exact ⟨hl, b, off, cap, e, by omega, h2⟩
/-- does one of the words begin with this byte? -/
def headB (ops : List (List UInt8)) (c : UInt8) : Bool := ops.any fun op => Lib.hasPrefix op [c]
def cutN (ops : List (List UInt8)) (l : List UInt8) : List UInt8 × List UInt8 := (l.takeWhile fun c => !headB ops c, l.dropWhile fun c => !headB ops c)
def longF (s : List UInt8) (found op : List UInt8) : List UInt8 := if found.length < op.length ∧ Lib.hasPrefix s op = true then op else found
/-- the longest of the words that the text begins with -/
def longR (ops : List (List UInt8)) (s : List UInt8) : List UInt8 := ops.foldl (longF s) []
theorem long_pre (ops : List (List UInt8)) (s : List UInt8) : Lib.hasPrefix s (longR ops s) = true := by
  have key : ∀ (ops : List (List UInt8)) (f : List UInt8), Lib.hasPrefix s f = true → Lib.hasPrefix s (ops.foldl (longF s) f) = true := by
    intro ops
    induction ops with
    | nil => intro f h; exact h
    | cons o t ih =>
      intro f h
      rw [List.foldl_cons]
      refine ih _ ?_
      unfold longF
      split
      · rename_i q; exact q.2
      · exact h
  exact key ops [] (by unfold Lib.hasPrefix; simp)
/-- an item: its name, the word, its value -/
abbrev Itm := List UInt8 × List UInt8 × List UInt8
def takeI (ops : List (List UInt8)) (a s : List UInt8) : Option (Itm × List UInt8) :=
  match tE [] (Lib.trimPrefix ((cutN ops (Lib.trimPrefix s a)).2.drop (longR ops (cutN ops (Lib.trimPrefix s a)).2).length) [34]) with
  | none => none
  | some (v, r) => if Lib.hasPrefix s a = true ∧ longR ops (cutN ops (Lib.trimPrefix s a)).2 ≠ [] ∧ Lib.hasPrefix ((cutN ops (Lib.trimPrefix s a)).2.drop (longR ops (cutN ops (Lib.trimPrefix s a)).2).length) [34] = true then some (((cutN ops (Lib.trimPrefix s a)).1, longR ops (cutN ops (Lib.trimPrefix s a)).2, v), r) else none
def itmV (x : Itm) : Value := .agg #[.string ⟨x.1.toArray⟩, .string ⟨x.2.1.toArray⟩, .string ⟨x.2.2.toArray⟩]
def takeIV : Option (Itm × List UInt8) → Value
  | none => .tuple #[.agg #[.string ⟨#[]⟩, .string ⟨#[]⟩, .string ⟨#[]⟩], .string ⟨#[]⟩, .bool false]
  | some (x, r) => .tuple #[itmV x, .string ⟨r.toArray⟩, .bool true]
end Go.Proofs.YtmcmgmpgmbljiaaDoor
/- braces.cutName: what is ahead of the first byte that one of the words begins with. -/
namespace Go.Proofs.YtmcmgmpgmbljiaaDoor
open Go Go.Proofs Go.RowKit Go.Shelf
set_option maxRecDepth 100000
theorem ext_one (l : List UInt8) (k : Nat) (hk : k < l.length) : (⟨l.toArray⟩ : ByteArray).extract k (k + 1) = ⟨[l[k]].toArray⟩ := by
  apply bytes_mk
  rw [Lib.extract_data]
  simp [List.take_one, List.head?_drop, hk]
set_option maxHeartbeats 1000000 in
theorem cutName1_any (op l : List UInt8) (k : Nat) (hk : k < l.length) (hl : l.length ≤ 100000) (bs bi : Nat) (w : World) (c0 : w.cell? ⟨bs, 0, none⟩ = some (.string ⟨l.toArray⟩)) (c1 : w.cell? ⟨bi, 0, none⟩ = some (.int .i64 (k : Int))) :
    Calls Tryd.prog 94 #[.string ⟨op.toArray⟩, .pointer (some ⟨bs, 0, none⟩), .pointer (some ⟨bi, 0, none⟩)] w fun e w' => e = .returned (.bool (Lib.hasPrefix op [l[k]])) ∧ w = w' := by
  have HP := Lib.hid ((Tryd.strings_HasPrefix ⟨op.toArray⟩ ⟨[l[k]].toArray⟩ w))
  have EX := Lib.hid (ext_one l k hk)
  have h0 : (0 : Int) ≤ (k : Int) := by omega
  have h1 : (k : Int) < (l.length : Int) := by omega
  have h2 : (k : Int) + 1 ≤ (l.length : Int) := by omega
  have h3 : k + 1 ≤ l.length := hk
  go_enter Tryd.func94, Tryd.ntmps94
  go_wp2_with fail
  rw [EX.out]
  refine HP.out.mono ?_
  rintro e w1 ⟨rfl, rfl⟩
  go_wp2
  go_ret
  exact ⟨rfl, rfl⟩
def IdxPost (ops : List (List UInt8)) (c : UInt8) (w : World) (e : Ending) (w' : World) : Prop := ∃ r : Int, e = .returned (.int .i64 r) ∧ decide (0 ≤ r) = headB ops c ∧ w = w'
theorem head_snoc (ops : List (List UInt8)) (c : UInt8) {k : Nat} {op : List UInt8} (h : ops[k]? = some op) : headB (ops.take (k + 1)) c = (headB (ops.take k) c || Lib.hasPrefix op [c]) := by
  obtain ⟨hk, e⟩ := List.getElem?_eq_some_iff.1 h
  unfold headB
  rw [List.take_succ_eq_append_getElem hk, e, List.any_append]; simp
theorem head_here (ops : List (List UInt8)) (c : UInt8) {k : Nat} {op : List UInt8} (h : ops[k]? = some op) (hp : Lib.hasPrefix op [c] = true) : headB ops c = true := List.any_eq_true.2 ⟨op, List.mem_of_getElem? h, hp⟩
set_option maxHeartbeats 2000000 in
theorem indexFunc_any (ops : List (List UInt8)) (a : Option Addr) (len cap : Nat) (l : List UInt8) (i : Nat) (hi : i < l.length) (hl : l.length ≤ 100000) (bs bi n₀ : Nat) (w : World) (hops : TxAt n₀ w (.slice a len cap) ops) (c0 : w.cell? ⟨bs, 0, none⟩ = some (.string ⟨l.toArray⟩)) (c1 : w.cell? ⟨bi, 0, none⟩ = some (.int .i64 (i : Int))) :
    Calls Tryd.prog 102 #[.slice a len cap, .func (.func 94) #[] #[.pointer (some ⟨bs, 0, none⟩), .pointer (some ⟨bi, 0, none⟩)]] w (IdxPost ops l[i] w) := by
  obtain ⟨hn, b, off, cp, e, _, hc⟩ := hops
  injection e with e1 e2 e3
  subst e1 e2 e3
  have HC := Lib.hid (fun op => cutName1_any op l i hi hl bs bi w c0 c1)
  generalize l[i] = c at *
  have HX := Lib.hid hc
  clear hc c0 c1
  go_enter Tryd.func102, Tryd.ntmps102
  go_wp2
  go_loop [8] (fun j => ∃ k : Nat, k ≤ ops.length ∧ j = .int .i64 (k : Int) ∧ headB (ops.take k) c = false) (fun j => ops.length - (intOf j).toNat)
  case atStart => exact ⟨0, Nat.zero_le _, rfl, rfl⟩
  case round =>
    obtain ⟨k, hk, rfl, hP⟩ := hrel
    by_cases hlt : k < ops.length
    · obtain ⟨op, hop⟩ : ∃ op, ops[k]? = some op := ⟨_, List.getElem?_eq_getElem hlt⟩
      have cx := HX.out k op hop
      have h1 : (0 : Int) ≤ (k : Int) := by omega
      have h2 : (k : Int) < (ops.length : Int) := by omega
      have hsn := head_snoc ops c hop
      rw [hP, Bool.false_or] at hsn
      have SN := Lib.hid hsn
      have HH := Lib.hid (head_here ops c hop)
      have HK := Lib.hid (HC.out op)
      clear hsn hop hP
      cases hb : Lib.hasPrefix op [c] with
      | true =>
        rw [hb] at HK
        have HBT := Lib.hid hb
        clear hb
        go_wp2_with fail
        refine HK.out.mono ?_
        rintro e w1 ⟨rfl, rfl⟩
        go_wp2
        go_ret
        exact ⟨(k : Int), rfl, by rw [HH.out HBT.out]; exact decide_eq_true (by omega), rfl⟩
      | false =>
        rw [hb] at HK SN
        clear hb
        go_wp2_with fail
        refine HK.out.mono ?_
        rintro e w1 ⟨rfl, rfl⟩
        go_wp2
        go_round
        case rel => exact ⟨k + 1, by omega, by go_num, SN.out⟩
        case measure => simp [intOf]; omega
    · have h2 : ¬ (k : Int) < (ops.length : Int) := by omega
      obtain rfl : k = ops.length := by omega
      rw [List.take_length] at hP
      have HP := Lib.hid hP
      clear hP
      go_wp2
      go_ret
      exact ⟨-1, rfl, by rw [HP.out]; rfl, rfl⟩
set_option maxHeartbeats 1000000 in
theorem bcontains_any (ops : List (List UInt8)) (a : Option Addr) (len cap : Nat) (l : List UInt8) (i : Nat) (hi : i < l.length) (hl : l.length ≤ 100000) (bs bi n₀ : Nat) (w : World) (hops : TxAt n₀ w (.slice a len cap) ops) (c0 : w.cell? ⟨bs, 0, none⟩ = some (.string ⟨l.toArray⟩)) (c1 : w.cell? ⟨bi, 0, none⟩ = some (.int .i64 (i : Int))) :
    Calls Tryd.prog 93 #[.slice a len cap, .func (.func 94) #[] #[.pointer (some ⟨bs, 0, none⟩), .pointer (some ⟨bi, 0, none⟩)]] w fun e w' => e = .returned (.bool (headB ops l[i])) ∧ w = w' := by
  have HC := Lib.hid (indexFunc_any ops a len cap l i hi hl bs bi n₀ w hops c0 c1)
  clear hops c0 c1
  generalize l[i] = c at *
  go_enter Tryd.func93, Tryd.ntmps93
  go_wp2_with fail
  refine HC.out.mono ?_
  rintro e w1 ⟨r, rfl, hr, rfl⟩
  have HR := Lib.hid hr
  clear hr
  go_wp2
  go_ret
  exact ⟨by rw [← HR.out]; rfl, rfl⟩
theorem tw_all (p : UInt8 → Bool) (l : List UInt8) (h : ∀ c ∈ l, p c = true) : l.takeWhile p = l ∧ l.dropWhile p = [] := by
  induction l with
  | nil => exact ⟨rfl, rfl⟩
  | cons a t ih =>
    have ha := h a List.mem_cons_self
    obtain ⟨i1, i2⟩ := ih (fun c hc => h c (List.mem_cons_of_mem _ hc))
    rw [List.takeWhile_cons, List.dropWhile_cons, if_pos ha, if_pos ha, i1, i2]; exact ⟨rfl, rfl⟩
theorem cutN_at (ops : List (List UInt8)) (l : List UInt8) {k : Nat} (hk : k < l.length) (h : ∀ j, j < k → ∀ c, l[j]? = some c → headB ops c = false) (hh : headB ops l[k] = true) : cutN ops l = (l.take k, l.drop k) := by
  have e : l = l.take k ++ l[k] :: l.drop (k + 1) := by rw [← List.drop_eq_getElem_cons hk, List.take_append_drop]
  have ha : ∀ c ∈ l.take k, (fun c => !headB ops c) c = true := by
    intro c hc
    obtain ⟨j, hj, e⟩ := List.mem_iff_getElem.1 hc
    rw [List.length_take] at hj
    show (!headB ops c) = true
    rw [h j (by omega) c (by rw [← e, List.getElem_take, List.getElem?_eq_getElem (by omega)])]; rfl
  have hb : ¬ ((fun c => !headB ops c) l[k] = true) := by show ¬ (!headB ops l[k]) = true; rw [hh]; simp
  have key : cutN ops (l.take k ++ l[k] :: l.drop (k + 1)) = (l.take k, l[k] :: l.drop (k + 1)) := by
    unfold cutN
    rw [List.takeWhile_append_of_pos ha, List.dropWhile_append_of_pos ha, List.takeWhile_cons, List.dropWhile_cons, if_neg hb, if_neg hb, List.append_nil]
  rw [← List.drop_eq_getElem_cons hk, List.take_append_drop] at key
  exact key
theorem cutN_none (ops : List (List UInt8)) (l : List UInt8) (h : ∀ j, j < l.length → ∀ c, l[j]? = some c → headB ops c = false) : cutN ops l = (l, []) := by
  obtain ⟨a, b⟩ := tw_all (fun c => !headB ops c) l (fun c hc => by
    obtain ⟨j, hj, e⟩ := List.mem_iff_getElem.1 hc
    show (!headB ops c) = true
    rw [h j hj c (by rw [List.getElem?_eq_getElem hj, e])]; rfl)
  unfold cutN
  rw [a, b]
end Go.Proofs.YtmcmgmpgmbljiaaDoor
/- braces.cutName walked. -/
namespace Go.Proofs.YtmcmgmpgmbljiaaDoor
open Go Go.Proofs Go.RowKit Go.Shelf
set_option maxRecDepth 100000
theorem below_dN' {B : Nat} {w v : World} (h : Below B w v) (q : Nat) : Below B w (v.drewN q) := ⟨h.os, h.tape, h.output, h.size, h.block⟩
theorem ext_front (l : List UInt8) (k : Nat) : (⟨l.toArray⟩ : ByteArray).extract 0 k = ⟨(l.take k).toArray⟩ := by
  apply bytes_mk; rw [Lib.extract_data]; simp
theorem ext_back (l : List UInt8) (k : Nat) : (⟨l.toArray⟩ : ByteArray).extract k l.length = ⟨(l.drop k).toArray⟩ := by
  apply bytes_mk; rw [Lib.extract_data]; simp; rw [List.take_of_length_le (by simp)]
set_option maxHeartbeats 4000000 in
theorem cutName_any (ops : List (List UInt8)) (a : Option Addr) (len cap : Nat) (l : List UInt8) (hl : l.length ≤ 100000) (w : World) (hops : TxAt w.heap.size w (.slice a len cap) ops) :
    Calls Tryd.prog 84 #[.string ⟨l.toArray⟩, .slice a len cap] w fun e w' => e = .returned (.tuple #[.string ⟨(cutN ops l).1.toArray⟩, .string ⟨(cutN ops l).2.toArray⟩]) ∧ Below w.heap.size w w' := by
  have HO := Lib.hid hops
  have D0 := At.new w #[.string ⟨l.toArray⟩] 9
  have hb0 := below_cells (w := w) (.cells #[.string ⟨l.toArray⟩] 9)
  clear hops
  go_enter Tryd.func84, Tryd.ntmps84
  go_wp2
  go_loopw [9] (fun i wr => ∃ k : Nat, k ≤ l.length ∧ i = .int .i64 (k : Int) ∧ Below w.heap.size w wr ∧ At wr w.heap.size [.string ⟨l.toArray⟩] ∧ ∀ j, j < k → ∀ c, l[j]? = some c → headB ops c = false) (fun i _ => l.length - (intOf i).toNat)
  case atStart => exact ⟨0, Nat.zero_le _, rfl, hb0, D0, fun j h => (by omega)⟩
  case round =>
    clear D0 hb0
    obtain ⟨k, hk, rfl, hb, D, hH⟩ := hrel
    by_cases hlt : k < l.length
    · have h1 : (0 : Int) ≤ (k : Int) := by omega
      have h2 : (k : Int) < (l.length : Int) := by omega
      have hE := At.new wr #[.int .i64 (k : Int)] 3
      have hbE := below_cells (w := wr) (.cells #[.int .i64 (k : Int)] 3)
      have D2 := D.below hbE
      have hb2 := below_then hb hbE
      have HC := Lib.hid (bcontains_any ops a len cap l k hlt hl w.heap.size wr.heap.size w.heap.size (wr.alloc (.cells #[.int .i64 (k : Int)] 3)) (HO.out.below hb2) (D2.cell 0 _ rfl) (hE.cell 0 _ rfl))
      have HH := Lib.hid hH
      have HB := Lib.hid hb2
      have HD := Lib.hid D2
      have HE := Lib.hid hE
      have c0 := D.cell 0 _ rfl
      clear hH hb hb2 D2 hE hbE D
      cases hq : headB ops l[k] with
      | true =>
        rw [hq] at HC
        have CN := Lib.hid (cutN_at ops l hlt HH.out hq)
        clear hq
        go_wp2_with fail
        refine HC.out.mono ?_
        rintro e w1 ⟨rfl, rfl⟩
        clear HC c0
        generalize wr.alloc (.cells #[.int .i64 (k : Int)] 3) = v at *
        have d0 := HD.out.cell 0 _ rfl
        have e0 := HE.out.cell 0 _ rfl
        have h3 : (k : Int) ≤ (l.length : Int) := by omega
        go_wp2_with fail
        go_quiet (fail)
        go_wp2
        go_ret2
        refine ⟨?_, below_dN' HB.out _⟩
        rw [CN.out]
        (try rw [ext_front, ext_back])
        rfl
      | false =>
        rw [hq] at HC
        have NX : Hid (∀ j, j < k + 1 → ∀ c, l[j]? = some c → headB ops c = false) := by
          intro j hj c hc
          rcases Nat.lt_or_ge j k with g | g
          · exact HH.out j g c hc
          · have : j = k := by omega
            subst this
            rw [List.getElem?_eq_getElem hlt] at hc
            cases hc; exact hq
        clear hq
        go_wp2_with fail
        refine HC.out.mono ?_
        rintro e w1 ⟨rfl, rfl⟩
        go_wp2
        go_roundw
        case rel => exact ⟨k + 1, by omega, by go_num, HB.out, HD.out, NX.out⟩
        case measure => simp [intOf]; omega
    · have h2 : ¬ (k : Int) < (l.length : Int) := by omega
      obtain rfl : k = l.length := by omega
      have CN := Lib.hid (cutN_none ops l hH)
      have c0 := D.cell 0 _ rfl
      clear hH
      go_wp2
      go_ret2
      exact ⟨by rw [CN.out]; rfl, hb⟩
end Go.Proofs.YtmcmgmpgmbljiaaDoor
