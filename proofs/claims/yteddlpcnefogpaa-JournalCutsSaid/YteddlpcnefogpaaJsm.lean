/- Records in memory, read; the law's same. -/
import Derived.Test.YteddlpcnefogpaaJrS
namespace Go.Proofs.Yteddlpcnefogpaa
open Go Go.Proofs Go.RowKit Go.Shelf
set_option maxRecDepth 100000
/-- the slice value sv holds the records rs -/
def Rcs (W : World) (sv : Value) (rs : List Rec) : Prop :=
  ((∃ a c, sv = .slice a 0 c) ∧ rs = []) ∨ ∃ g off cap, sv = .slice (some ⟨g, off, none⟩) rs.length cap ∧ g < W.heap.size ∧ ∀ j r, rs[j]? = some r →
    ∃ a c, W.cell? ⟨g, off + j * 2, none⟩ = some (byV r.1) ∧ W.cell? ⟨g, off + j * 2 + 1, none⟩ = some (.slice a r.2.length c) ∧ BysC W a r.2.length c r.2
/-- .. the reference's -/
def RRv (W : World) (sv : Value) (rs : List Rec) : Prop :=
  ((∃ a c, sv = .slice a 0 c) ∧ rs = []) ∨ ∃ g off cap, sv = .slice (some ⟨g, off, none⟩) rs.length cap ∧ g < W.heap.size ∧ ∀ j r, rs[j]? = some r →
    W.cell? ⟨g, off + j * 2, none⟩ = some (byV r.1) ∧ W.cell? ⟨g, off + j * 2 + 1, none⟩ = some (.string ⟨r.2.toArray⟩)
theorem Rcs.below {A B : World} {sv : Value} {rs : List Rec} (h : Rcs A sv rs) (hb : Below A.heap.size A B) : Rcs B sv rs :=
  h.imp id (fun ⟨g, off, cap, e, hg, hc⟩ => ⟨g, off, cap, e, Nat.lt_of_lt_of_le hg hb.size, fun j r hj => by
    obtain ⟨a, c, h1, h2, h3⟩ := hc j r hj
    exact ⟨a, c, (hb.cell (p := ⟨g, off + j * 2, none⟩) hg).trans h1, (hb.cell (p := ⟨g, off + j * 2 + 1, none⟩) hg).trans h2, h3.below hb⟩⟩)
theorem RRv.below {A B : World} {sv : Value} {rs : List Rec} (h : RRv A sv rs) (hb : Below A.heap.size A B) : RRv B sv rs :=
  h.imp id (fun ⟨g, off, cap, e, hg, hc⟩ => ⟨g, off, cap, e, Nat.lt_of_lt_of_le hg hb.size, fun j r hj => ⟨(hb.cell (p := ⟨g, off + j * 2, none⟩) hg).trans (hc j r hj).1, (hb.cell (p := ⟨g, off + j * 2 + 1, none⟩) hg).trans (hc j r hj).2⟩⟩)
theorem Rcs.len {W : World} {a : Option Addr} {n c : Nat} {rs : List Rec} (h : Rcs W (.slice a n c) rs) : n = rs.length := by
  rcases h with ⟨⟨_, _, e⟩, rfl⟩ | ⟨b, off, cap, e, _⟩
  · injection e
  · injection e
theorem RRv.len {W : World} {a : Option Addr} {n c : Nat} {rs : List Rec} (h : RRv W (.slice a n c) rs) : n = rs.length := by
  rcases h with ⟨⟨_, _, e⟩, rfl⟩ | ⟨b, off, cap, e, _⟩
  · injection e
  · injection e
theorem pairs_get {α : Type} (f g : α → Value) : ∀ (l : List α) (j : Nat) (x : α), l[j]? = some x → (l.flatMap fun x => [f x, g x])[j * 2]? = some (f x) ∧ (l.flatMap fun x => [f x, g x])[j * 2 + 1]? = some (g x)
  | [], j, x, h => by simp at h
  | y :: l, 0, x, h => by simp at h; subst h; simp
  | y :: l, j + 1, x, h => by
    have := pairs_get f g l j x (by simpa using h)
    rw [show (j + 1) * 2 = j * 2 + 2 by omega]
    simpa [List.flatMap_cons] using this
theorem row_cells {W : World} {B T n : Nat} {v : Value} {X : List Value} (h : W.ownsRow B T 2 v n X) : v = .slice none 0 0 ∧ n = 0 ∨ ∃ g cap, v = .slice (some ⟨g, 0, none⟩) n cap ∧ B ≤ g ∧ g < W.heap.size ∧ n ≤ cap ∧ ∀ j x, X[j]? = some x → W.cell? ⟨g, 0 + j, none⟩ = some x := by
  rcases h.2 with h0 | ⟨g, cap, cur, rfl, hb, hg, hn, _⟩
  · exact .inl h0
  · refine .inr ⟨g, cap, rfl, hb, (Array.getElem?_eq_some_iff.1 hg).1, hn, fun j x hj => ?_⟩
    have := World.ownsRow.cells h (g := g) rfl j x hj
    rwa [Addr.add_lit] at this
theorem Rcs.of_ys {B : Nat} {W : World} {v : Value} {xs : List Yl} (h : Ys B W v xs) : Rcs W v (xs.map (·.r)) := by
  obtain ⟨h1, _, h3⟩ := h
  rcases row_cells h1 with ⟨rfl, h0⟩ | ⟨g, cap, rfl, _, hg, _, hc⟩
  · exact .inl ⟨⟨_, _, rfl⟩, by rw [List.eq_nil_of_length_eq_zero h0]; rfl⟩
  · refine .inr ⟨g, 0, cap, by rw [List.length_map], hg, fun j r hj => ?_⟩
    rw [List.getElem?_map] at hj
    obtain ⟨x, hx, rfl⟩ := Option.map_eq_some_iff.1 hj
    have hp := pairs_get (fun x : Yl => byV x.r.1) (fun x : Yl => x.dv) xs j x hx
    exact ⟨x.a, x.c, hc _ _ hp.1, hc _ _ hp.2, BysC.of_dat (h3 x (List.mem_of_getElem? hx))⟩
theorem RRv.of_row {B : Nat} {W : World} {v : Value} {rs : List Rec} (h : RRs B W v rs) (n : Nat) (hn : n ≤ rs.length) : (∃ a c, v = .slice a rs.length c ∧ rs.length ≤ c) ∧ ∀ a c c', v = .slice a rs.length c → RRv W (.slice a n c') (rs.take n) := by
  rcases row_cells h with ⟨rfl, h0⟩ | ⟨g, cap, rfl, _, hg, hnc, hc⟩
  · have e : rs = [] := List.eq_nil_of_length_eq_zero h0
    subst e
    obtain rfl : n = 0 := by simpa using hn
    exact ⟨⟨_, _, rfl, Nat.le_refl _⟩, fun a c c' e => .inl ⟨⟨_, _, rfl⟩, rfl⟩⟩
  · refine ⟨⟨_, _, rfl, hnc⟩, fun a c c' e => ?_⟩
    injection e with e1 _ e3
    subst e1 e3
    refine .inr ⟨g, 0, c', by rw [List.length_take, Nat.min_eq_left hn], hg, fun j r hj => ?_⟩
    have hj' : rs[j]? = some r := by
      have hlt := (List.getElem?_eq_some_iff.1 hj).1
      rw [List.length_take] at hlt
      rwa [List.getElem?_take, if_pos (by omega)] at hj
    have hp := pairs_get (fun r : Rec => byV r.1) (fun r : Rec => .string ⟨r.2.toArray⟩) rs j r hj'
    exact ⟨hc _ _ hp.1, hc _ _ hp.2⟩
theorem RRv.all {B : Nat} {W : World} {v : Value} {rs : List Rec} (h : RRs B W v rs) : RRv W v rs := by
  obtain ⟨⟨a, c, rfl, _⟩, h2⟩ := RRv.of_row h rs.length (Nat.le_refl _)
  have := h2 a c c rfl
  rwa [List.take_length] at this
theorem txt_inj {a b : List UInt8} (h : (⟨a.toArray⟩ : ByteArray) = ⟨b.toArray⟩) : a = b := by
  have := congrArg (fun s : ByteArray => s.data.toList) h
  simpa using this
set_option maxHeartbeats 8000000 in
theorem same_any (a b : Option Addr) (n m ca cb : Nat) (A B : List Rec) (w : World) (hA : Rcs w (.slice a n ca) A) (hB : RRv w (.slice b m cb) B) (hl : A.length ≤ 1099511627776) (hm : B.length ≤ 1099511627776) :
    Calls Try.prog 11 #[.slice a n ca, .slice b m cb] w fun e w' => e = .returned (.bool (decide (A = B))) ∧ Below w.heap.size w w' := by
  obtain rfl := hA.len
  obtain rfl := hB.len
  by_cases hne : A.length = B.length
  · rw [← hne] at hB ⊢
    have HA := Lib.hid hA
    have HB := Lib.hid hB
    have HN := Lib.hid hne
    clear hA hB hne hm
    go_enter Try.func11, Try.ntmps11
    go_wp2
    go_loopw [5] (fun i wr => ∃ k : Nat, i = .int .i64 (k : Int) ∧ k ≤ A.length ∧ A.take k = B.take k ∧ Below w.heap.size w wr) (fun i _ => A.length - (intOf i).toNat)
    case atStart => exact ⟨0, rfl, Nat.zero_le _, rfl, Below.refl _ _⟩
    case round =>
      obtain ⟨k, rfl, hk, hT, hBe⟩ := hrel
      by_cases hlt : k < A.length
      · obtain ⟨ra, hra⟩ : ∃ r, A[k]? = some r := ⟨_, List.getElem?_eq_getElem hlt⟩
        obtain ⟨rb, hrb⟩ : ∃ r, B[k]? = some r := ⟨_, List.getElem?_eq_getElem (by rw [← HN.out]; exact hlt)⟩
        have hA2 := HA.out.below hBe
        have hB2 := HB.out.below hBe
        rcases hA2 with ⟨_, rfl⟩ | ⟨g, off, cap, e, hg, hcs⟩
        · simp at hlt
        rcases hB2 with ⟨_, e0⟩ | ⟨g', off', cap', e', hg', hcs'⟩
        · rw [e0] at hrb; simp at hrb
        injection e with e1 e2 e3
        clear e2
        injection e' with e1' e2' e3'
        clear e2'
        subst e1 e3 e1' e3'
        obtain ⟨da, dc, c0, c1, hby⟩ := hcs k ra hra
        obtain ⟨c2, c3⟩ := hcs' k rb hrb
        have cv : ∀ q, (convert 22 9 (.slice da ra.2.length dc)).run Try.prog (wr.drewN q) = .ok (.string ⟨ra.2.toArray⟩) (wr.drewN q) := fun q => text_of_bys (hby.bys.below (below_drewN (Below.refl _ _) q))
        have h0 : (0 : Int) ≤ (k : Int) := by omega
        have h1 : (k : Int) < (A.length : Int) := by omega
        have hsn : ra = rb → A.take (k + 1) = B.take (k + 1) := fun e => by
          rw [List.take_add_one, List.take_add_one, hT, hra, hrb, e]
        have hno : ra ≠ rb → decide (A = B) = false := fun h => by
          simp only [decide_eq_false_iff_not]
          rintro rfl
          rw [hra] at hrb
          exact h (Option.some.inj hrb)
        have HS := Lib.hid hsn
        have HO := Lib.hid hno
        have HBe := Lib.hid hBe
        obtain ⟨ka, xa⟩ := ra
        obtain ⟨kb, xb⟩ := rb
        dsimp only at c0 c1 c2 c3 cv
        clear hcs hcs' hra hrb hT hsn hno hby
        by_cases e1 : ka = kb
        · subst e1
          have n1 : ((ka.toNat : Int) == (ka.toNat : Int)) = true := by simp
          by_cases e2 : xa = xb
          · subst e2
            have hsn := HS.out rfl
            have HSN := Lib.hid hsn
            clear hsn
            go_wp2
            go_quiet (fail)
            go_wp2
            go_roundw
            case rel => exact ⟨k + 1, by simp, by omega, HSN.out, below_drewN HBe.out _⟩
            case measure => simp [intOf]; omega
          · have n2 : (xa == xb) = false := by simpa using e2
            have n3 : (@BEq.beq _ instBEqOfDecidableEq xa xb) = false := @beq_eq_false_iff_ne _ instBEqOfDecidableEq _ _ _ |>.2 e2
            have hno := HO.out (by intro h; exact e2 (congrArg Prod.snd h))
            have HNO := Lib.hid hno
            clear hno
            go_wp2
            go_quiet (fail)
            go_wp2
            go_ret
            exact ⟨by rw [HNO.out]; rfl, below_drewN HBe.out _⟩
        · have n1 : ((ka.toNat : Int) == (kb.toNat : Int)) = false := by
            rw [Bool.eq_false_iff]
            intro h
            exact e1 (UInt8.toNat_inj.1 (Int.ofNat_inj.1 (by simpa using h)))
          have n2 : ¬ (ka.toNat = kb.toNat) := fun h => e1 (UInt8.toNat_inj.1 h)
          have n3 : ((ka.toNat : Int) != (kb.toNat : Int)) = true := by simp [bne, n1]
          have hno := HO.out (by intro h; exact e1 (congrArg Prod.fst h))
          have HNO := Lib.hid hno
          clear hno
          go_wp2
          go_quiet (fail)
          go_wp2
          go_ret
          exact ⟨by rw [HNO.out]; rfl, below_drewN HBe.out _⟩
      · obtain rfl : k = A.length := by omega
        have e : A = B := by rw [List.take_length, HN.out, List.take_length] at hT; exact hT
        have hd : decide (A = B) = true := by simpa using e
        have HF := Lib.hid hd
        have hq3 : ¬ ((A.length : Int) < (A.length : Int)) := by omega
        clear hT hlt e hd
        go_wp2
        go_ret
        exact ⟨by rw [HF.out]; rfl, hBe⟩
  · have e : decide (A = B) = false := by simp; rintro rfl; exact hne rfl
    have HE := Lib.hid e
    have hq : ((A.length : Int) == (B.length : Int)) = false := by simp; omega
    have hq2 : ¬ (A.length : Int) = (B.length : Int) := by omega
    clear hA hB e
    go_enter Try.func11, Try.ntmps11
    go_wp2
    go_ret
    exact ⟨by rw [HE.out]; rfl, Below.refl _ _⟩
end Go.Proofs.Yteddlpcnefogpaa
