/- store: a row of entries in memory; place. -/
import Derived.Test.YtedcdhngiofpjaaGreatDoorSeI
import Derived.IntWalk
namespace Go.Proofs.YtedcdhngiofpjaaGreatDoor
open Go Go.Proofs Go.RowKit Go.Shelf
set_option maxRecDepth 100000
abbrev TES : TypeId := 142
abbrev TLS : TypeId := 143
abbrev TRS : TypeId := 81
def entCS (zs : List EnS) : List Value := zs.flatMap fun x => [.string ⟨List.toArray x.1⟩, .pointer (some ⟨x.2, 0, none⟩)]
theorem entCS_cons (zs : List EnS) (x : EnS) : entCS (x :: zs) = .string ⟨List.toArray x.1⟩ :: .pointer (some ⟨x.2, 0, none⟩) :: entCS zs := by unfold entCS; simp
theorem entCS_app (a b : List EnS) : entCS (a ++ b) = entCS a ++ entCS b := by unfold entCS; simp
theorem entCS_snoc (zs : List EnS) (x : EnS) : entCS (zs ++ [x]) = entCS zs ++ [.string ⟨List.toArray x.1⟩, .pointer (some ⟨x.2, 0, none⟩)] := by unfold entCS; simp
theorem entCS_at (zs : List EnS) : ∀ j x, zs[j]? = some x → (entCS zs)[j * 2]? = some (.string ⟨List.toArray x.1⟩) ∧ (entCS zs)[j * 2 + 1]? = some (.pointer (some ⟨x.2, 0, none⟩)) := by
  induction zs with
  | nil => intro j x h; simp at h
  | cons y t ih =>
    intro j x h
    rw [entCS_cons]
    cases j with
    | zero => simp at h; subst h; exact ⟨rfl, rfl⟩
    | succ j =>
      rw [List.getElem?_cons_succ] at h
      have := ih j x h
      rw [show (j + 1) * 2 = j * 2 + 1 + 1 by omega]
      simpa using this
theorem entCS_len (zs : List EnS) : (entCS zs).length = zs.length * 2 := by
  induction zs with
  | nil => rfl
  | cons y t ih => rw [entCS_cons]; simp only [List.length_cons, ih]; omega
theorem entCS_one (zs : List EnS) : ∀ v ∈ entCS zs, v.oneCell' = true := by
  intro v hv
  unfold entCS at hv
  obtain ⟨x, _, h⟩ := List.mem_flatMap.1 hv
  simp at h
  rcases h with rfl | rfl <;> rfl
theorem entCS_take (zs : List EnS) (p : Nat) : entCS (zs.take p) = (entCS zs).take (p * 2) := by
  induction zs generalizing p with
  | nil => simp [entCS]
  | cons x t ih =>
    cases p with
    | zero => simp [entCS]
    | succ p => rw [List.take_succ_cons, entCS_cons, entCS_cons, show (p + 1) * 2 = p * 2 + 1 + 1 by omega, List.take_succ_cons, List.take_succ_cons, ih]
theorem entCS_drop (zs : List EnS) (p : Nat) : entCS (zs.drop p) = (entCS zs).drop (p * 2) := by
  induction zs generalizing p with
  | nil => simp [entCS]
  | cons x t ih =>
    cases p with
    | zero => simp
    | succ p => rw [List.drop_succ_cons, entCS_cons, show (p + 1) * 2 = p * 2 + 1 + 1 by omega, List.drop_succ_cons, List.drop_succ_cons, ih]
theorem info_enS : (Tryz.prog.info? TES).map (fun i => (i.zero, i.size, i.bytes)) = some (some (.agg #[.string ⟨#[]⟩, .pointer none]), 2, 24) := by kernel_rfl
theorem size2S : (Tryz.prog.info? TES).map (·.size) = some 2 := by kernel_rfl
/-- a row of entries that lies from a block's head on -/
def RwS (w : World) (E cap : Nat) (zs : List EnS) : Prop :=
  ∃ cur, w.heap[E]? = some (.cells cur TES (0, 0)) ∧ zs.length ≤ cap ∧ cap ≤ maxLen ∧ cur.size = cap * 2 ∧ cur.toList.take (zs.length * 2) = entCS zs
theorem RwS.own {w : World} {E cap : Nat} {zs : List EnS} (h : RwS w E cap zs) : w.ownsRow 0 TES 2 (.slice (some ⟨E, 0, none⟩) zs.length cap) zs.length (entCS zs) := by
  obtain ⟨cur, h1, h2, h3, h4, h5⟩ := h
  exact ⟨entCS_len zs, .inr ⟨E, cap, cur, rfl, Nat.zero_le _, h1, h2, h3, h4, h5⟩⟩
theorem RwS.lt {w : World} {E cap : Nat} {zs : List EnS} (h : RwS w E cap zs) : E < w.heap.size := by
  obtain ⟨cur, h1, _⟩ := h
  exact (Array.getElem?_eq_some_iff.1 h1).1
theorem RwS.keep {w w' : World} {E cap : Nat} {zs : List EnS} (h : RwS w E cap zs) (e : w'.heap[E]? = w.heap[E]?) : RwS w' E cap zs := by
  obtain ⟨cur, h1, h2⟩ := h
  exact ⟨cur, e.trans h1, h2⟩
theorem RwS.below {w w' : World} {E cap : Nat} {zs : List EnS} (h : RwS w E cap zs) (hb : Below w.heap.size w w') : RwS w' E cap zs := h.keep (hb.block E h.lt)
theorem RwS.cell {w : World} {E cap : Nat} {zs : List EnS} (h : RwS w E cap zs) {k : Nat} {x : EnS} (hx : zs[k]? = some x) :
    w.cell? ⟨E, k * 2, none⟩ = some (.string ⟨List.toArray x.1⟩) ∧ w.cell? ⟨E, k * 2 + 1, none⟩ = some (.pointer (some ⟨x.2, 0, none⟩)) := by
  obtain ⟨cur, h1, h2, h3, h4, h5⟩ := h
  have hk : k < zs.length := (List.getElem?_eq_some_iff.1 hx).1
  obtain ⟨c0, c1⟩ := entCS_at zs k x hx
  rw [← h5, List.getElem?_take] at c0 c1
  rw [if_pos (by omega)] at c0 c1
  exact ⟨(cell_of_row w E _ _ _ _ h1).trans (by simpa using c0), (cell_of_row w E _ _ _ _ h1).trans (by simpa using c1)⟩
theorem place2S_any (k : (List UInt8)) (v : Value) (t : (List UInt8)) (w : World) : Calls Tryz.prog 107 #[.agg #[.string ⟨List.toArray k⟩, v], .string ⟨List.toArray t⟩] w fun e w' => e = .returned (.int .i64 (cmpR k t)) ∧ Below w.heap.size w w' := by
  have C := Lib.hid (fun W => cmp_any k t W)
  go_enter Tryz.func107, Tryz.ntmps107
  go_wp2_with fail
  refine (C.out _).mono ?_
  rintro e w1 ⟨rfl, rfl⟩
  go_wp2
  go_ret
  exact ⟨rfl, by go_grown⟩
theorem place1S_any (E n cap : Nat) (zs : List EnS) (x : EnS) (t : (List UInt8)) (w : World) (h : RwS w E cap zs) (hn : zs.length = n + 1) (hl : n < 1000) (hx : zs[n]? = some x) :
    Calls Tryz.prog 104 #[.slice (some ⟨E, 0, none⟩) (n + 1) cap, .string ⟨List.toArray t⟩] w fun e w' => e = .returned (.int .i64 (cmpR x.1 t)) ∧ Below w.heap.size w w' := by
  have C := Lib.hid (fun W => cmp_any x.1 t W)
  obtain ⟨c0, c1⟩ := h.cell hx
  have q1 : IntKind.i64.wrap (((n + 1 : Nat) : Int) - 1) = (n : Int) := by rw [IntKind.wrap_i64]; omega
  have q1' : IntKind.i64.wrap ((n : Int) + 1 - 1) = (n : Int) := by rw [IntKind.wrap_i64]; omega
  have q2 : (0 : Int) ≤ (n : Int) := by omega
  have q3 : (n : Int) < ((n + 1 : Nat) : Int) := by omega
  have q4 : (n : Int) < (n : Int) + 1 := by omega
  clear h hx hn
  go_enter Tryz.func104, Tryz.ntmps104
  go_wp2_with fail
  refine (C.out _).mono ?_
  rintro e w1 ⟨rfl, rfl⟩
  go_wp2
  go_ret
  exact ⟨rfl, by go_grown⟩
/-- is that key there -/
def hereS (zs : List EnS) (p : Nat) (t : (List UInt8)) : Bool := match zs[p]? with | some x => decide (x.1 = t) | none => false
def BsSPost (zs : List EnS) (p : Nat) (t : (List UInt8)) (w : World) (e : Ending) (w' : World) : Prop := e = .returned (.tuple #[.int .i64 (p : Int), .bool (hereS zs p t)]) ∧ Below w.heap.size w w'
set_option maxHeartbeats 4000000 in
theorem bsinS_any (E cap : Nat) (zs : List EnS) (hreach : zs.length ≤ 1000) (t : (List UInt8)) (p : Nat) (hp : p ≤ zs.length) (hP : ∀ k x, zs[k]? = some x → (ltS x.1 t = true ↔ k < p)) (w : World) (hI : RwS w E cap zs) :
    Calls Tryz.prog 106 #[.slice (some ⟨E, 0, none⟩) zs.length cap, .string ⟨List.toArray t⟩, .func (.func 107) #[] #[]] w (BsSPost zs p t w) := by
  have HP := Lib.hid hP
  have HI := Lib.hid hI
  have HH0 := Lib.hid (show ∀ e w', e = Ending.returned (.tuple #[.int .i64 (p : Int), .bool (hereS zs p t)]) ∧ Below w.heap.size w w' → BsSPost zs p t w e w' from fun _ _ h => h)
  clear hP hI
  go_enter Tryz.func106, Tryz.ntmps106
  go_wp2
  go_loopw [9, 10] (fun i9 j10 wr => ∃ i j : Nat, i9 = .int .i64 (i : Int) ∧ j10 = .int .i64 (j : Int) ∧ i ≤ p ∧ p ≤ j ∧ j ≤ zs.length ∧ Below w.heap.size w wr) (fun i9 j10 _ => (intOf j10).toNat - (intOf i9).toNat)
  case atStart => exact ⟨0, zs.length, rfl, rfl, Nat.zero_le _, hp, Nat.le_refl _, Below.refl _ _⟩
  case round =>
    obtain ⟨i, j, rfl, rfl, h1, h2, h3, hB⟩ := hrel
    by_cases hlt : i < j
    · have hlt' : (i : Int) < (j : Int) := by omega
      obtain ⟨h, hh⟩ : ∃ h : Nat, h = (i + j) / 2 := ⟨_, rfl⟩
      have hhn : h < zs.length := by omega
      obtain ⟨x, hx⟩ : ∃ x, zs[h]? = some x := ⟨_, List.getElem?_eq_getElem hhn⟩
      have hPh := HP.out h x hx
      obtain ⟨c0, c1⟩ := (HI.out.below hB).cell hx
      obtain ⟨xk, xb⟩ := x
      dsimp only at hPh c0 c1
      have W1 := Lib.hid (place2S_any xk (.pointer (some ⟨xb, 0, none⟩)) t wr)
      have q1 : (0 : Int) ≤ ((i : Int) + (j : Int)) / 2 := by omega
      have q2 : ((i : Int) + (j : Int)) / 2 < (zs.length : Int) := by omega
      have q3 : (((i : Int) + (j : Int)) / 2).toNat = h := by omega
      have Q4 := Lib.hid (show ((i : Int) + (j : Int)) / 2 = (h : Int) by omega)
      have q5 : IntKind.i64.wrap ((h : Int) + 1) = (h : Int) + 1 := by rw [IntKind.wrap_i64]; omega
      have hlt2 := cmpS_lt xk t
      have HH := Lib.hid hh
      have HPH := Lib.hid hPh
      clear hx hh hPh
      go_wp2_with fail
      refine (W1.out).mono ?_
      rintro e w1 ⟨rfl, hb1⟩
      have hB1 := hB.trans (hb1.mono hB.size)
      cases hbl : ltS xk t
      · rw [hbl] at hlt2
        go_wp2
        rw [Q4.out]
        have hnp : ¬ h < p := fun hc => by have := HPH.out.2 hc; rw [hbl] at this; cases this
        have := HH.out
        exact ⟨⟨i, h, rfl, rfl, h1, by omega, by omega, hB1⟩, by simp only [intOf]; omega⟩
      · rw [hbl] at hlt2
        go_wp2
        rw [Q4.out]
        have hnp : h < p := HPH.out.1 hbl
        have := HH.out
        exact ⟨⟨h + 1, j, by go_num, rfl, by omega, h2, h3, hB1⟩, by simp only [intOf]; omega⟩
    · obtain rfl : i = p := by omega
      obtain rfl : j = i := by omega
      have hlt' : ¬ (j : Int) < (j : Int) := by omega
      by_cases hn : j < zs.length
      · obtain ⟨x, hx⟩ : ∃ x, zs[j]? = some x := ⟨_, List.getElem?_eq_getElem hn⟩
        obtain ⟨c0, c1⟩ := (HI.out.below hB).cell hx
        obtain ⟨xk, xb⟩ := x
        dsimp only at c0 c1
        have W1 := Lib.hid (place2S_any xk (.pointer (some ⟨xb, 0, none⟩)) t wr)
        have HQ := Lib.hid (show hereS zs j t = decide (xk = t) by unfold hereS; rw [hx])
        have HC := Lib.hid (cmpS_eq xk t)
        have q1 : (0 : Int) ≤ (j : Int) := by omega
        have q2 : (j : Int) < (zs.length : Int) := by omega
        clear hx hlt
        go_wp2_with fail
        refine (W1.out).mono ?_
        rintro e w1 ⟨rfl, hb1⟩
        have hB1 := hB.trans (hb1.mono hB.size)
        have hcq := HC.out
        by_cases hq : xk = t
        · have hz : (cmpR xk t == 0) = true := by rw [hcq]; simpa using hq
          have hz2 : cmpR xk t = 0 := by simpa using hz
          go_wp2
          go_ret2
          exact HH0.out _ _ ⟨by rw [HQ.out]; subst hq; simp [hz2], hB1⟩
        · have hz : (cmpR xk t == 0) = false := by rw [hcq]; simpa using hq
          have hz2 : ¬ cmpR xk t = 0 := by simpa using hz
          go_wp2
          go_ret2
          exact HH0.out _ _ ⟨by rw [HQ.out]; simp [hq, hz2], hB1⟩
      · have q2 : ¬ (j : Int) < (zs.length : Int) := by omega
        have HQ := Lib.hid (show hereS zs j t = false by unfold hereS; rw [List.getElem?_eq_none (by omega)])
        clear hlt
        go_wp2
        go_ret2
        exact HH0.out _ _ ⟨by (rw [HQ.out]; first | done | rfl), hB⟩
end Go.Proofs.YtedcdhngiofpjaaGreatDoor
