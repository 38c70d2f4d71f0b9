/- braces.cutName: what is ahead of the first byte that one of the words begins with. -/
import Derived.Test.YteagpkkffnehiaaGreatDoorBrM
namespace Go.Proofs.YteagpkkffnehiaaGreatDoor
open Go Go.Proofs Go.RowKit Go.Shelf
set_option maxRecDepth 100000
theorem ext_one (l : List UInt8) (k : Nat) (hk : k < l.length) : (⟨l.toArray⟩ : ByteArray).extract k (k + 1) = ⟨[l[k]].toArray⟩ := by
  apply bytes_mk
  rw [Lib.extract_data]
  simp [List.take_one, List.head?_drop, hk]
set_option maxHeartbeats 1000000 in
theorem cutName1_any (op l : List UInt8) (k : Nat) (hk : k < l.length) (hl : l.length ≤ 100000) (bs bi : Nat) (w : World) (c0 : w.cell? ⟨bs, 0, none⟩ = some (.string ⟨l.toArray⟩)) (c1 : w.cell? ⟨bi, 0, none⟩ = some (.int .i64 (k : Int))) :
    Calls Tryz.prog 121 #[.string ⟨op.toArray⟩, .pointer (some ⟨bs, 0, none⟩), .pointer (some ⟨bi, 0, none⟩)] w fun e w' => e = .returned (.bool (Lib.hasPrefix op [l[k]])) ∧ w = w' := by
  have HP := Lib.hid ((Tryz.strings_HasPrefix ⟨op.toArray⟩ ⟨[l[k]].toArray⟩ w))
  have EX := Lib.hid (ext_one l k hk)
  have h0 : (0 : Int) ≤ (k : Int) := by omega
  have h1 : (k : Int) < (l.length : Int) := by omega
  have h2 : (k : Int) + 1 ≤ (l.length : Int) := by omega
  have h3 : k + 1 ≤ l.length := hk
  go_enter Tryz.func121, Tryz.ntmps121
  go_wp2_with fail
  rw [EX.out]
  refine HP.out.mono ?_
  rintro e w1 ⟨rfl, rfl⟩
  go_wp2
  go_ret
  exact ⟨rfl, rfl⟩
def IdxPost (ops : List (List UInt8)) (c : UInt8) (w : World) (e : Ending) (w' : World) : Prop := ∃ r : Int, e = .returned (.int .i64 r) ∧ decide (0 ≤ r) = headB ops c ∧ w = w'
theorem head_snoc (ops : List (List UInt8)) (c : UInt8) {k : Nat} {op : List UInt8} (h : ops[k]? = some op) : headB (ops.take (k + 1)) c = (headB (ops.take k) c || Lib.hasPrefix op [c]) := by
  obtain ⟨hk, e⟩ := List.getElem?_eq_some_iff.1 h
  unfold headB
  rw [List.take_succ_eq_append_getElem hk, e, List.any_append]; simp
theorem head_here (ops : List (List UInt8)) (c : UInt8) {k : Nat} {op : List UInt8} (h : ops[k]? = some op) (hp : Lib.hasPrefix op [c] = true) : headB ops c = true := List.any_eq_true.2 ⟨op, List.mem_of_getElem? h, hp⟩
set_option maxHeartbeats 2000000 in
theorem indexFunc_any (ops : List (List UInt8)) (a : Option Addr) (len cap : Nat) (l : List UInt8) (i : Nat) (hi : i < l.length) (hl : l.length ≤ 100000) (bs bi n₀ : Nat) (w : World) (hops : TxAt n₀ w (.slice a len cap) ops) (c0 : w.cell? ⟨bs, 0, none⟩ = some (.string ⟨l.toArray⟩)) (c1 : w.cell? ⟨bi, 0, none⟩ = some (.int .i64 (i : Int))) :
    Calls Tryz.prog 127 #[.slice a len cap, .func (.func 121) #[] #[.pointer (some ⟨bs, 0, none⟩), .pointer (some ⟨bi, 0, none⟩)]] w (IdxPost ops l[i] w) := by
  obtain ⟨hn, b, off, cp, e, _, hc⟩ := hops
  injection e with e1 e2 e3
  subst e1 e2 e3
  have HC := Lib.hid (fun op => cutName1_any op l i hi hl bs bi w c0 c1)
  generalize l[i] = c at *
  have HX := Lib.hid hc
  clear hc c0 c1
  go_enter Tryz.func127, Tryz.ntmps127
  go_wp2
  go_loop [8] (fun j => ∃ k : Nat, k ≤ ops.length ∧ j = .int .i64 (k : Int) ∧ headB (ops.take k) c = false) (fun j => ops.length - (intOf j).toNat)
  case atStart => exact ⟨0, Nat.zero_le _, rfl, rfl⟩
  case round =>
    obtain ⟨k, hk, rfl, hP⟩ := hrel
    by_cases hlt : k < ops.length
    · obtain ⟨op, hop⟩ : ∃ op, ops[k]? = some op := ⟨_, List.getElem?_eq_getElem hlt⟩
      have cx := HX.out k op hop
      have h1 : (0 : Int) ≤ (k : Int) := by omega
      have h2 : (k : Int) < (ops.length : Int) := by omega
      have hsn := head_snoc ops c hop
      rw [hP, Bool.false_or] at hsn
      have SN := Lib.hid hsn
      have HH := Lib.hid (head_here ops c hop)
      have HK := Lib.hid (HC.out op)
      clear hsn hop hP
      cases hb : Lib.hasPrefix op [c] with
      | true =>
        rw [hb] at HK
        have HBT := Lib.hid hb
        clear hb
        go_wp2_with fail
        refine HK.out.mono ?_
        rintro e w1 ⟨rfl, rfl⟩
        go_wp2
        go_ret
        exact ⟨(k : Int), rfl, by rw [HH.out HBT.out]; exact decide_eq_true (by omega), rfl⟩
      | false =>
        rw [hb] at HK SN
        clear hb
        go_wp2_with fail
        refine HK.out.mono ?_
        rintro e w1 ⟨rfl, rfl⟩
        go_wp2
        go_round
        case rel => exact ⟨k + 1, by omega, by go_num, SN.out⟩
        case measure => simp [intOf]; omega
    · have h2 : ¬ (k : Int) < (ops.length : Int) := by omega
      obtain rfl : k = ops.length := by omega
      rw [List.take_length] at hP
      have HP := Lib.hid hP
      clear hP
      go_wp2
      go_ret
      exact ⟨-1, rfl, by rw [HP.out]; rfl, rfl⟩
set_option maxHeartbeats 1000000 in
theorem bcontains_any (ops : List (List UInt8)) (a : Option Addr) (len cap : Nat) (l : List UInt8) (i : Nat) (hi : i < l.length) (hl : l.length ≤ 100000) (bs bi n₀ : Nat) (w : World) (hops : TxAt n₀ w (.slice a len cap) ops) (c0 : w.cell? ⟨bs, 0, none⟩ = some (.string ⟨l.toArray⟩)) (c1 : w.cell? ⟨bi, 0, none⟩ = some (.int .i64 (i : Int))) :
    Calls Tryz.prog 120 #[.slice a len cap, .func (.func 121) #[] #[.pointer (some ⟨bs, 0, none⟩), .pointer (some ⟨bi, 0, none⟩)]] w fun e w' => e = .returned (.bool (headB ops l[i])) ∧ w = w' := by
  have HC := Lib.hid (indexFunc_any ops a len cap l i hi hl bs bi n₀ w hops c0 c1)
  clear hops c0 c1
  generalize l[i] = c at *
  go_enter Tryz.func120, Tryz.ntmps120
  go_wp2_with fail
  refine HC.out.mono ?_
  rintro e w1 ⟨r, rfl, hr, rfl⟩
  have HR := Lib.hid hr
  clear hr
  go_wp2
  go_ret
  exact ⟨by rw [← HR.out]; rfl, rfl⟩
theorem tw_all (p : UInt8 → Bool) (l : List UInt8) (h : ∀ c ∈ l, p c = true) : l.takeWhile p = l ∧ l.dropWhile p = [] := by
  induction l with
  | nil => exact ⟨rfl, rfl⟩
  | cons a t ih =>
    have ha := h a List.mem_cons_self
    obtain ⟨i1, i2⟩ := ih (fun c hc => h c (List.mem_cons_of_mem _ hc))
    rw [List.takeWhile_cons, List.dropWhile_cons, if_pos ha, if_pos ha, i1, i2]; exact ⟨rfl, rfl⟩
theorem cutN_at (ops : List (List UInt8)) (l : List UInt8) {k : Nat} (hk : k < l.length) (h : ∀ j, j < k → ∀ c, l[j]? = some c → headB ops c = false) (hh : headB ops l[k] = true) : cutN ops l = (l.take k, l.drop k) := by
  have e : l = l.take k ++ l[k] :: l.drop (k + 1) := by rw [← List.drop_eq_getElem_cons hk, List.take_append_drop]
  have ha : ∀ c ∈ l.take k, (fun c => !headB ops c) c = true := by
    intro c hc
    obtain ⟨j, hj, e⟩ := List.mem_iff_getElem.1 hc
    rw [List.length_take] at hj
    show (!headB ops c) = true
    rw [h j (by omega) c (by rw [← e, List.getElem_take, List.getElem?_eq_getElem (by omega)])]; rfl
  have hb : ¬ ((fun c => !headB ops c) l[k] = true) := by show ¬ (!headB ops l[k]) = true; rw [hh]; simp
  have key : cutN ops (l.take k ++ l[k] :: l.drop (k + 1)) = (l.take k, l[k] :: l.drop (k + 1)) := by
    unfold cutN
    rw [List.takeWhile_append_of_pos ha, List.dropWhile_append_of_pos ha, List.takeWhile_cons, List.dropWhile_cons, if_neg hb, if_neg hb, List.append_nil]
  rw [← List.drop_eq_getElem_cons hk, List.take_append_drop] at key
  exact key
theorem cutN_none (ops : List (List UInt8)) (l : List UInt8) (h : ∀ j, j < l.length → ∀ c, l[j]? = some c → headB ops c = false) : cutN ops l = (l, []) := by
  obtain ⟨a, b⟩ := tw_all (fun c => !headB ops c) l (fun c hc => by
    obtain ⟨j, hj, e⟩ := List.mem_iff_getElem.1 hc
    show (!headB ops c) = true
    rw [h j hj c (by rw [List.getElem?_eq_getElem hj, e])]; rfl)
  unfold cutN
  rw [a, b]
end Go.Proofs.YteagpkkffnehiaaGreatDoor
