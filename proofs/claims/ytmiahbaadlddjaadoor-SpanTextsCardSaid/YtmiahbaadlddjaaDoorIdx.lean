/- strings.IndexAny of the digits at every text: bytes beyond ASCII, too. -/
import Derived.Test.YtmiahbaadlddjaaDoorTakeM
import Derived.Laws.Runes
import Derived.Laws.RangeAny
import Derived.Deep.LoopGhost
namespace Go.Proofs.YtmiahbaadlddjaaDoor
open Go Go.Proofs Go.RowKit Go.Shelf
set_option maxRecDepth 100000
theorem iB_none : ∀ (l : List UInt8) (c : UInt8), (∀ b ∈ l, b.toNat < 128) → 128 ≤ c.toNat → Lib.indexByte l c = -1 := by
  intro l c h hc
  induction l with
  | nil => rfl
  | cons b t ih =>
    unfold Lib.indexByte
    have hb := h b List.mem_cons_self
    have hne : ¬ b = c := fun e => by rw [e] at hb; omega
    rw [ih (fun x hx => h x (List.mem_cons_of_mem _ hx))]
    simp [hne]
def dgs : ByteArray := ⟨#[48, 49, 50, 51, 52, 53, 54, 55, 56, 57]⟩
set_option maxHeartbeats 2000000 in
theorem rune_bad (W : World) :
    Calls Tryd.prog 46 #[.string ⟨#[48, 49, 50, 51, 52, 53, 54, 55, 56, 57]⟩, .int .i32 65533] W fun e w' => e = .returned (.int .i64 (-1)) ∧ Below W.heap.size W w' := by
  obtain ⟨d, hd⟩ : ∃ d : ByteArray, (⟨#[48, 49, 50, 51, 52, 53, 54, 55, 56, 57]⟩ : ByteArray) = d := ⟨_, rfl⟩
  have hsz : d.size = 10 := by rw [← hd]; rfl
  have hall : ∀ i (h : i < d.size), (d[i]).toNat < 128 := by
    intro i h
    subst hd
    exact ascii_of_all (l := [48, 49, 50, 51, 52, 53, 54, 55, 56, 57]) (by decide) i _ (Lib.data_getElem? _ i h)
  rw [hd]
  have HA := Lib.hid hall
  have HS := Lib.hid hsz
  clear hd hall hsz
  go_enter Tryd.func46, Tryd.ntmps46
  go_wp2
  go_loopg [5, 6] 10 (fun g _ _ wx => ∃ i : Nat, i + g = 10 ∧ wx = W.iter d i)
  case atStart => exact ⟨0, by omega, rfl⟩
  case round =>
    obtain ⟨i, hig, rfl⟩ := hrel
    cases gk with
    | zero =>
      have hnx := run_next_end (P := Tryd.prog) W d i
      have hlt : ¬ i < d.size := by have := HS.out; omega
      go_wp2
      go_ret
      exact ⟨rfl, (Below.refl _ _).alloc (Nat.le_refl _) _⟩
    | succ g =>
      have hi : i < d.size := by have := HS.out; omega
      obtain ⟨x, hx⟩ : ∃ x : UInt8, d[i] = x := ⟨_, rfl⟩
      have hx128 : x.toNat < 128 := by have := HA.out i hi; rw [hx] at this; exact this
      have hnx := fun ty => run_next_ascii (P := Tryd.prog) W d i ty hi (by rw [hx]; exact hx128)
      rw [hx] at hnx
      have hne : ((x.toNat : Int) == 65533) = false := by rw [beq_eq_false_iff_ne]; omega
      clear hx
      go_wp2
      go_roundg g
      case measure => omega
      case rel => exact ⟨i + 1, by omega, rfl⟩
theorem rune_void (r : Int) (h : 128 ≤ r) (hn : ¬ r = 65533) (hv : Lib.validRune r = false) (W : World) :
    Calls Tryd.prog 46 #[.string ⟨#[48, 49, 50, 51, 52, 53, 54, 55, 56, 57]⟩, .int .i32 r] W fun e w' => e = .returned (.int .i64 (-1)) ∧ Below W.heap.size W w' := by
  have VR := fun W => (Tryd.utf8_ValidRune r W).mono (R' := fun e w' => e = .returned (.bool (Lib.validRune r)) ∧ W = w') (fun e w' ⟨a, b⟩ => ⟨a, b.symm⟩)
  rw [hv] at VR
  have VR := Lib.hid VR
  have h1 : (r == 65533) = false := by rw [beq_eq_false_iff_ne]; exact hn
  clear hv
  go_enter Tryd.func46, Tryd.ntmps46
  go_wp2_with fail
  refine (VR.out _).mono ?_
  rintro e w' ⟨rfl, rfl⟩
  go_wp2
  go_ret
  exact ⟨rfl, Below.refl _ _⟩
set_option maxHeartbeats 2000000 in
theorem rune_high1 (r : Int) (h : 128 ≤ r) (hn : ¬ r = 65533) (hv : Lib.validRune r = true) (hs : (Utf8.encode r).size = 2) (hc : ∀ h, 128 ≤ ((Utf8.encode r)[1]'h).toNat) (W : World) :
    Calls Tryd.prog 46 #[.string ⟨#[48, 49, 50, 51, 52, 53, 54, 55, 56, 57]⟩, .int .i32 r] W fun e w' => e = .returned (.int .i64 (-1)) ∧ Below W.heap.size W w' := by
  have VR := fun W => (Tryd.utf8_ValidRune r W).mono (R' := fun e w' => e = .returned (.bool (Lib.validRune r)) ∧ W = w') (fun e w' ⟨a, b⟩ => ⟨a, b.symm⟩)
  rw [hv] at VR
  have VR := Lib.hid VR
  have h1 : (r == 65533) = false := by rw [beq_eq_false_iff_ne]; exact hn
  obtain ⟨E, hE⟩ : ∃ E, Utf8.encode r = E := ⟨_, rfl⟩
  have hs : E.size = 2 := by rw [← hE]; exact hs
  have hc : ∀ h, 128 ≤ (E[1]'h).toNat := by subst hE; exact hc
  have hlt : 1 < E.size := by omega
  have hc1 := hc hlt
  obtain ⟨c, hcc⟩ : ∃ c, E[1] = c := ⟨_, rfl⟩
  rw [hcc] at hc1
  have hB0 := Below.refl W.heap.size W
  have n1 : ((49 : Int) == (c.toNat : Int)) = false := by rw [beq_eq_false_iff_ne]; omega
  have n2 : ¬ (49 : Int) = (c.toNat : Int) := by omega
  have IB := fun W => (Tryd.strings_IndexByte ((⟨#[48, 49, 50, 51, 52, 53, 54, 55, 56, 57]⟩ : ByteArray).extract 2 10) c.toNat W).mono (R' := fun e w' => e = .returned (.int .i64 (Lib.indexByte ((⟨#[48, 49, 50, 51, 52, 53, 54, 55, 56, 57]⟩ : ByteArray).extract 2 10).data.toList ((c.toNat : Int)).toNat.toUInt8)) ∧ Below W.heap.size W w') (fun e w' ⟨a, b⟩ => ⟨a, by rw [b]; exact Below.refl _ _⟩)
  rw [show ((c.toNat : Int)).toNat.toUInt8 = c by simp, iB_none ((⟨#[48, 49, 50, 51, 52, 53, 54, 55, 56, 57]⟩ : ByteArray).extract 2 10).data.toList c (by decide) hc1] at IB
  have IB := Lib.hid IB
  have e1 : (E.size : Int) - 1 = 1 := by omega
  have e2 : (E.size : Int) = 2 := by omega
  have w9 : IntKind.i64.wrap (2 : Int) = 2 := rfl
  clear hv hc
  go_enter Tryd.func46, Tryd.ntmps46
  go_wp2_with fail
  refine (VR.out _).mono ?_
  rintro e w' ⟨rfl, rfl⟩
  go_wp2
  go_step3
  go_wp2
  refine wp_loop_rounds 1 ?_
  rw [rounds_succ]
  go_wp2
  go_step3
  go_wp2
  refine wp_region_held_drew (S := fun w' => Below W.heap.size W w') (by kernel_rfl) ?_ (fun hS => ?_)
  · (try dsimp only)
    (repeat' apply And.intro) <;> first | go_cell | exact hB0.drew
  refine' wpAnyH_take (i := 0) (oi := ?oiT0a1) (v := ?vT0a1) ?hiT0a1 (by kernel_rfl) (by kernel_rfl) (by kernel_rfl) ?hQT0a1 ?hyT0a1 hS ?restT0a1
  case hiT0a1 =>
    simp only [List.getElem?_toArray, List.getElem?_cons_succ, List.getElem?_cons_zero]
    exact rfl
  case hQT0a1 => exact fun _ _ _ h => h
  case hyT0a1 =>
    refine Or.inl ⟨by rfl, ?_⟩
    intro w hSw
    (try dsimp only at hSw)
    go_simp
    (try with_reducible rfl)
  (try simp only [Act.put, List.setIfInBounds_toArray, List.set_cons_zero, List.set_cons_succ])
  refine' wpAnyH_take (i := 1) (oi := ?oiT1a1) (v := ?vT1a1) ?hiT1a1 (by kernel_rfl) (by kernel_rfl) (by kernel_rfl) ?hQT1a1 ?hyT1a1 hS ?restT1a1
  case hiT1a1 =>
    simp only [List.getElem?_toArray, List.getElem?_cons_succ, List.getElem?_cons_zero]
    exact rfl
  case hQT1a1 => exact fun _ _ _ h => h
  case hyT1a1 =>
    refine Or.inl ⟨by rfl, ?_⟩
    intro w hSw
    (try dsimp only at hSw)
    go_simp
    (try with_reducible rfl)
  (try simp only [Act.put, List.setIfInBounds_toArray, List.set_cons_zero, List.set_cons_succ])
  refine' wpAnyH_take (i := 2) (oi := ?oiT2a1) (v := .int .u8 49) ?hiT2a1 (by kernel_rfl) (by kernel_rfl) (by kernel_rfl) ?hQT2a1 ?hyT2a1 hS ?restT2a1
  case hiT2a1 =>
    simp only [List.getElem?_toArray, List.getElem?_cons_succ, List.getElem?_cons_zero]
    exact rfl
  case hQT2a1 => exact fun _ _ _ h => h
  case hyT2a1 =>
    refine Or.inl ⟨by rfl, ?_⟩
    intro w hSw
    (try dsimp only at hSw)
    go_simp
    (try rfl)
  (try simp only [Act.put, List.setIfInBounds_toArray, List.set_cons_zero, List.set_cons_succ])
  refine' wpAnyH_take (i := 3) (oi := ?oiT3a1) (v := ?vT3a1) ?hiT3a1 (by kernel_rfl) (by kernel_rfl) (by kernel_rfl) ?hQT3a1 ?hyT3a1 hS ?restT3a1
  case hiT3a1 =>
    simp only [List.getElem?_toArray, List.getElem?_cons_succ, List.getElem?_cons_zero]
    exact rfl
  case hQT3a1 => exact fun _ _ _ h => h
  case hyT3a1 =>
    refine Or.inl ⟨by rfl, ?_⟩
    intro w hSw
    (try dsimp only at hSw)
    go_simp
    (try with_reducible rfl)
  (try simp only [Act.put, List.setIfInBounds_toArray, List.set_cons_zero, List.set_cons_succ])
  refine' wpAnyH_take (i := 4) (oi := ?oiT4a1) (v := ?vT4a1) ?hiT4a1 (by kernel_rfl) (by kernel_rfl) (by kernel_rfl) ?hQT4a1 ?hyT4a1 hS ?restT4a1
  case hiT4a1 =>
    simp only [List.getElem?_toArray, List.getElem?_cons_succ, List.getElem?_cons_zero]
    exact rfl
  case hQT4a1 => exact fun _ _ _ h => h
  case hyT4a1 =>
    refine Or.inl ⟨by rfl, ?_⟩
    intro w hSw
    (try dsimp only at hSw)
    go_simp
    (try with_reducible rfl)
  (try simp only [Act.put, List.setIfInBounds_toArray, List.set_cons_zero, List.set_cons_succ])
  refine' wpAnyH_take (i := 5) (oi := ?oiT5a1) (v := ?vT5a1) ?hiT5a1 (by kernel_rfl) (by kernel_rfl) (by kernel_rfl) ?hQT5a1 ?hyT5a1 hS ?restT5a1
  case hiT5a1 =>
    simp only [List.getElem?_toArray, List.getElem?_cons_succ, List.getElem?_cons_zero]
    exact rfl
  case hQT5a1 => exact fun _ _ _ h => h
  case hyT5a1 =>
    refine Or.inl ⟨by rfl, ?_⟩
    intro w hSw
    (try dsimp only at hSw)
    go_simp
    (try with_reducible rfl)
  (try simp only [Act.put, List.setIfInBounds_toArray, List.set_cons_zero, List.set_cons_succ])
  refine' wpAnyH_take (i := 6) (oi := ?oiT6a1) (v := ?vT6a1) ?hiT6a1 (by kernel_rfl) (by kernel_rfl) (by kernel_rfl) ?hQT6a1 ?hyT6a1 hS ?restT6a1
  case hiT6a1 =>
    simp only [List.getElem?_toArray, List.getElem?_cons_succ, List.getElem?_cons_zero]
    exact rfl
  case hQT6a1 => exact fun _ _ _ h => h
  case hyT6a1 =>
    refine Or.inl ⟨by rfl, ?_⟩
    intro w hSw
    (try dsimp only at hSw)
    go_simp
    (try with_reducible rfl)
  (try simp only [Act.put, List.setIfInBounds_toArray, List.set_cons_zero, List.set_cons_succ])
  refine wpAnyH_done (by kernel_rfl) ?_ _
  have hB1 := hS
  clear hS
  go_wp2
  refine wp_region_held_drew (S := fun w' => Below W.heap.size W w') (by kernel_rfl) ?_ (fun hS => ?_)
  · (try dsimp only)
    (repeat' apply And.intro) <;> first | go_cell | exact hB1.drew
  refine' wpAnyH_take (i := 0) (oi := ?oiT0b1) (v := ?vT0b1) ?hiT0b1 (by kernel_rfl) (by kernel_rfl) (by kernel_rfl) ?hQT0b1 ?hyT0b1 hS ?restT0b1
  case hiT0b1 =>
    simp only [List.getElem?_toArray, List.getElem?_cons_succ, List.getElem?_cons_zero]
    exact rfl
  case hQT0b1 => exact fun _ _ _ h => h
  case hyT0b1 =>
    refine Or.inl ⟨by rfl, ?_⟩
    intro w hSw
    (try dsimp only at hSw)
    go_simp
    (try with_reducible rfl)
  (try simp only [Act.put, List.setIfInBounds_toArray, List.set_cons_zero, List.set_cons_succ])
  refine' wpAnyH_take (i := 1) (oi := ?oiT1b1) (v := ?vT1b1) ?hiT1b1 (by kernel_rfl) (by kernel_rfl) (by kernel_rfl) ?hQT1b1 ?hyT1b1 hS ?restT1b1
  case hiT1b1 =>
    simp only [List.getElem?_toArray, List.getElem?_cons_succ, List.getElem?_cons_zero]
    exact rfl
  case hQT1b1 => exact fun _ _ _ h => h
  case hyT1b1 =>
    refine Or.inl ⟨by rfl, ?_⟩
    intro w hSw
    (try dsimp only at hSw)
    go_simp
    (try with_reducible rfl)
  (try simp only [Act.put, List.setIfInBounds_toArray, List.set_cons_zero, List.set_cons_succ])
  refine' wpAnyH_take (i := 2) (oi := ?oiT2b1) (v := ?vT2b1) ?hiT2b1 (by kernel_rfl) (by kernel_rfl) (by kernel_rfl) ?hQT2b1 ?hyT2b1 hS ?restT2b1
  case hiT2b1 =>
    simp only [List.getElem?_toArray, List.getElem?_cons_succ, List.getElem?_cons_zero]
    exact rfl
  case hQT2b1 => exact fun _ _ _ h => h
  case hyT2b1 =>
    refine Or.inl ⟨by rfl, ?_⟩
    intro w hSw
    (try dsimp only at hSw)
    go_simp
    (try with_reducible rfl)
  (try simp only [Act.put, List.setIfInBounds_toArray, List.set_cons_zero, List.set_cons_succ])
  refine' wpAnyH_take (i := 3) (oi := ?oiT3b1) (v := ?vT3b1) ?hiT3b1 (by kernel_rfl) (by kernel_rfl) (by kernel_rfl) ?hQT3b1 ?hyT3b1 hS ?restT3b1
  case hiT3b1 =>
    simp only [List.getElem?_toArray, List.getElem?_cons_succ, List.getElem?_cons_zero]
    exact rfl
  case hQT3b1 => exact fun _ _ _ h => h
  case hyT3b1 =>
    refine Or.inl ⟨by rfl, ?_⟩
    intro w hSw
    (try dsimp only at hSw)
    go_simp
    (try with_reducible rfl)
  (try simp only [Act.put, List.setIfInBounds_toArray, List.set_cons_zero, List.set_cons_succ])
  refine' wpAnyH_take (i := 4) (oi := ?oiT4b1) (v := ?vT4b1) ?hiT4b1 (by kernel_rfl) (by kernel_rfl) (by kernel_rfl) ?hQT4b1 ?hyT4b1 hS ?restT4b1
  case hiT4b1 =>
    simp only [List.getElem?_toArray, List.getElem?_cons_succ, List.getElem?_cons_zero]
    exact rfl
  case hQT4b1 => exact fun _ _ _ h => h
  case hyT4b1 =>
    refine Or.inl ⟨by rfl, ?_⟩
    intro w hSw
    (try dsimp only at hSw)
    go_simp
    (try with_reducible rfl)
  (try simp only [Act.put, List.setIfInBounds_toArray, List.set_cons_zero, List.set_cons_succ])
  refine' wpAnyH_take (i := 5) (oi := ?oiT5b1) (v := ?vT5b1) ?hiT5b1 (by kernel_rfl) (by kernel_rfl) (by kernel_rfl) ?hQT5b1 ?hyT5b1 hS ?restT5b1
  case hiT5b1 =>
    simp only [List.getElem?_toArray, List.getElem?_cons_succ, List.getElem?_cons_zero]
    exact rfl
  case hQT5b1 => exact fun _ _ _ h => h
  case hyT5b1 =>
    refine Or.inl ⟨by rfl, ?_⟩
    intro w hSw
    (try dsimp only at hSw)
    go_simp
    (try with_reducible rfl)
  (try simp only [Act.put, List.setIfInBounds_toArray, List.set_cons_zero, List.set_cons_succ])
  refine' wpAnyH_take (i := 6) (oi := ?oiT6b1) (v := ?vT6b1) ?hiT6b1 (by kernel_rfl) (by kernel_rfl) (by kernel_rfl) ?hQT6b1 ?hyT6b1 hS ?restT6b1
  case hiT6b1 =>
    simp only [List.getElem?_toArray, List.getElem?_cons_succ, List.getElem?_cons_zero]
    exact rfl
  case hQT6b1 => exact fun _ _ _ h => h
  case hyT6b1 =>
    refine Or.inl ⟨by rfl, ?_⟩
    intro w hSw
    (try dsimp only at hSw)
    go_simp
    (try with_reducible rfl)
  (try simp only [Act.put, List.setIfInBounds_toArray, List.set_cons_zero, List.set_cons_succ])
  refine wpAnyH_ready (rs := [7]) (by kernel_rfl) (by simp) ?_
  refine' AllReadyH.cons (o := ?ooC7b1) ?hoC7b1 (fun K hK => ?stepC7b1) AllReadyH.nil
  case hoC7b1 =>
    simp only [List.getElem?_toArray, List.getElem?_cons_succ, List.getElem?_cons_zero]
    exact rfl
  go_simp
  go_at_call 60
  refine (IB.out _).mono ?_
  rintro e w1 ⟨rfl, hb1⟩
  go_wp2_with fail
  refine hK.out _ _ ?_ (fun hS => ?_)
  · (try dsimp only)
    go_split_ands
    (repeat' apply And.intro) <;> first | (refine cell_later hb1 ?_; with_reducible assumption) | (refine below_then ?_ hb1; with_reducible assumption)
  clear hK K hb1
  (try simp only [Act.put, List.setIfInBounds_toArray, List.set_cons_zero, List.set_cons_succ])
  refine' wpAnyH_take (i := 8) (oi := ?oiT8b1) (v := ?vT8b1) ?hiT8b1 (by kernel_rfl) (by kernel_rfl) (by kernel_rfl) ?hQT8b1 ?hyT8b1 hS ?restT8b1
  case hiT8b1 =>
    simp only [List.getElem?_toArray, List.getElem?_cons_succ, List.getElem?_cons_zero]
    exact rfl
  case hQT8b1 => exact fun _ _ _ h => h
  case hyT8b1 =>
    refine Or.inl ⟨by rfl, ?_⟩
    intro w hSw
    (try dsimp only at hSw)
    go_simp
    (try with_reducible rfl)
  (try simp only [Act.put, List.setIfInBounds_toArray, List.set_cons_zero, List.set_cons_succ])
  refine wpAnyH_done (by kernel_rfl) ?_ _
  have hB2 := hS
  clear hS
  go_wp2
  rw [Exit.noGoto_ret]
  go_wp2
  (try rw [Exit.noGoto_ret])
  go_ret
  exact ⟨rfl, hB2⟩
set_option maxHeartbeats 2000000 in
theorem rune_high2 (r : Int) (h : 128 ≤ r) (hn : ¬ r = 65533) (hv : Lib.validRune r = true) (hs : (Utf8.encode r).size = 3) (hc : ∀ h, 128 ≤ ((Utf8.encode r)[2]'h).toNat) (W : World) :
    Calls Tryd.prog 46 #[.string ⟨#[48, 49, 50, 51, 52, 53, 54, 55, 56, 57]⟩, .int .i32 r] W fun e w' => e = .returned (.int .i64 (-1)) ∧ Below W.heap.size W w' := by
  have VR := fun W => (Tryd.utf8_ValidRune r W).mono (R' := fun e w' => e = .returned (.bool (Lib.validRune r)) ∧ W = w') (fun e w' ⟨a, b⟩ => ⟨a, b.symm⟩)
  rw [hv] at VR
  have VR := Lib.hid VR
  have h1 : (r == 65533) = false := by rw [beq_eq_false_iff_ne]; exact hn
  obtain ⟨E, hE⟩ : ∃ E, Utf8.encode r = E := ⟨_, rfl⟩
  have hs : E.size = 3 := by rw [← hE]; exact hs
  have hc : ∀ h, 128 ≤ (E[2]'h).toNat := by subst hE; exact hc
  have hlt : 2 < E.size := by omega
  have hc1 := hc hlt
  obtain ⟨c, hcc⟩ : ∃ c, E[2] = c := ⟨_, rfl⟩
  rw [hcc] at hc1
  have hB0 := Below.refl W.heap.size W
  have n1 : ((50 : Int) == (c.toNat : Int)) = false := by rw [beq_eq_false_iff_ne]; omega
  have n2 : ¬ (50 : Int) = (c.toNat : Int) := by omega
  have IB := fun W => (Tryd.strings_IndexByte ((⟨#[48, 49, 50, 51, 52, 53, 54, 55, 56, 57]⟩ : ByteArray).extract 3 10) c.toNat W).mono (R' := fun e w' => e = .returned (.int .i64 (Lib.indexByte ((⟨#[48, 49, 50, 51, 52, 53, 54, 55, 56, 57]⟩ : ByteArray).extract 3 10).data.toList ((c.toNat : Int)).toNat.toUInt8)) ∧ Below W.heap.size W w') (fun e w' ⟨a, b⟩ => ⟨a, by rw [b]; exact Below.refl _ _⟩)
  rw [show ((c.toNat : Int)).toNat.toUInt8 = c by simp, iB_none ((⟨#[48, 49, 50, 51, 52, 53, 54, 55, 56, 57]⟩ : ByteArray).extract 3 10).data.toList c (by decide) hc1] at IB
  have IB := Lib.hid IB
  have e1 : (E.size : Int) - 1 = 2 := by omega
  have e2 : (E.size : Int) = 3 := by omega
  have w9 : IntKind.i64.wrap (3 : Int) = 3 := rfl
  clear hv hc
  go_enter Tryd.func46, Tryd.ntmps46
  go_wp2_with fail
  refine (VR.out _).mono ?_
  rintro e w' ⟨rfl, rfl⟩
  go_wp2
  go_step3
  go_wp2
  refine wp_loop_rounds 1 ?_
  rw [rounds_succ]
  go_wp2
  go_step3
  go_wp2
  refine wp_region_held_drew (S := fun w' => Below W.heap.size W w') (by kernel_rfl) ?_ (fun hS => ?_)
  · (try dsimp only)
    (repeat' apply And.intro) <;> first | go_cell | exact hB0.drew
  refine' wpAnyH_take (i := 0) (oi := ?oiT0a2) (v := ?vT0a2) ?hiT0a2 (by kernel_rfl) (by kernel_rfl) (by kernel_rfl) ?hQT0a2 ?hyT0a2 hS ?restT0a2
  case hiT0a2 =>
    simp only [List.getElem?_toArray, List.getElem?_cons_succ, List.getElem?_cons_zero]
    exact rfl
  case hQT0a2 => exact fun _ _ _ h => h
  case hyT0a2 =>
    refine Or.inl ⟨by rfl, ?_⟩
    intro w hSw
    (try dsimp only at hSw)
    go_simp
    (try with_reducible rfl)
  (try simp only [Act.put, List.setIfInBounds_toArray, List.set_cons_zero, List.set_cons_succ])
  refine' wpAnyH_take (i := 1) (oi := ?oiT1a2) (v := ?vT1a2) ?hiT1a2 (by kernel_rfl) (by kernel_rfl) (by kernel_rfl) ?hQT1a2 ?hyT1a2 hS ?restT1a2
  case hiT1a2 =>
    simp only [List.getElem?_toArray, List.getElem?_cons_succ, List.getElem?_cons_zero]
    exact rfl
  case hQT1a2 => exact fun _ _ _ h => h
  case hyT1a2 =>
    refine Or.inl ⟨by rfl, ?_⟩
    intro w hSw
    (try dsimp only at hSw)
    go_simp
    (try with_reducible rfl)
  (try simp only [Act.put, List.setIfInBounds_toArray, List.set_cons_zero, List.set_cons_succ])
  refine' wpAnyH_take (i := 2) (oi := ?oiT2a2) (v := .int .u8 50) ?hiT2a2 (by kernel_rfl) (by kernel_rfl) (by kernel_rfl) ?hQT2a2 ?hyT2a2 hS ?restT2a2
  case hiT2a2 =>
    simp only [List.getElem?_toArray, List.getElem?_cons_succ, List.getElem?_cons_zero]
    exact rfl
  case hQT2a2 => exact fun _ _ _ h => h
  case hyT2a2 =>
    refine Or.inl ⟨by rfl, ?_⟩
    intro w hSw
    (try dsimp only at hSw)
    go_simp
    (try rfl)
  (try simp only [Act.put, List.setIfInBounds_toArray, List.set_cons_zero, List.set_cons_succ])
  refine' wpAnyH_take (i := 3) (oi := ?oiT3a2) (v := ?vT3a2) ?hiT3a2 (by kernel_rfl) (by kernel_rfl) (by kernel_rfl) ?hQT3a2 ?hyT3a2 hS ?restT3a2
  case hiT3a2 =>
    simp only [List.getElem?_toArray, List.getElem?_cons_succ, List.getElem?_cons_zero]
    exact rfl
  case hQT3a2 => exact fun _ _ _ h => h
  case hyT3a2 =>
    refine Or.inl ⟨by rfl, ?_⟩
    intro w hSw
    (try dsimp only at hSw)
    go_simp
    (try with_reducible rfl)
  (try simp only [Act.put, List.setIfInBounds_toArray, List.set_cons_zero, List.set_cons_succ])
  refine' wpAnyH_take (i := 4) (oi := ?oiT4a2) (v := ?vT4a2) ?hiT4a2 (by kernel_rfl) (by kernel_rfl) (by kernel_rfl) ?hQT4a2 ?hyT4a2 hS ?restT4a2
  case hiT4a2 =>
    simp only [List.getElem?_toArray, List.getElem?_cons_succ, List.getElem?_cons_zero]
    exact rfl
  case hQT4a2 => exact fun _ _ _ h => h
  case hyT4a2 =>
    refine Or.inl ⟨by rfl, ?_⟩
    intro w hSw
    (try dsimp only at hSw)
    go_simp
    (try with_reducible rfl)
  (try simp only [Act.put, List.setIfInBounds_toArray, List.set_cons_zero, List.set_cons_succ])
  refine' wpAnyH_take (i := 5) (oi := ?oiT5a2) (v := ?vT5a2) ?hiT5a2 (by kernel_rfl) (by kernel_rfl) (by kernel_rfl) ?hQT5a2 ?hyT5a2 hS ?restT5a2
  case hiT5a2 =>
    simp only [List.getElem?_toArray, List.getElem?_cons_succ, List.getElem?_cons_zero]
    exact rfl
  case hQT5a2 => exact fun _ _ _ h => h
  case hyT5a2 =>
    refine Or.inl ⟨by rfl, ?_⟩
    intro w hSw
    (try dsimp only at hSw)
    go_simp
    (try with_reducible rfl)
  (try simp only [Act.put, List.setIfInBounds_toArray, List.set_cons_zero, List.set_cons_succ])
  refine' wpAnyH_take (i := 6) (oi := ?oiT6a2) (v := ?vT6a2) ?hiT6a2 (by kernel_rfl) (by kernel_rfl) (by kernel_rfl) ?hQT6a2 ?hyT6a2 hS ?restT6a2
  case hiT6a2 =>
    simp only [List.getElem?_toArray, List.getElem?_cons_succ, List.getElem?_cons_zero]
    exact rfl
  case hQT6a2 => exact fun _ _ _ h => h
  case hyT6a2 =>
    refine Or.inl ⟨by rfl, ?_⟩
    intro w hSw
    (try dsimp only at hSw)
    go_simp
    (try with_reducible rfl)
  (try simp only [Act.put, List.setIfInBounds_toArray, List.set_cons_zero, List.set_cons_succ])
  refine wpAnyH_done (by kernel_rfl) ?_ _
  have hB1 := hS
  clear hS
  go_wp2
  refine wp_region_held_drew (S := fun w' => Below W.heap.size W w') (by kernel_rfl) ?_ (fun hS => ?_)
  · (try dsimp only)
    (repeat' apply And.intro) <;> first | go_cell | exact hB1.drew
  refine' wpAnyH_take (i := 0) (oi := ?oiT0b2) (v := ?vT0b2) ?hiT0b2 (by kernel_rfl) (by kernel_rfl) (by kernel_rfl) ?hQT0b2 ?hyT0b2 hS ?restT0b2
  case hiT0b2 =>
    simp only [List.getElem?_toArray, List.getElem?_cons_succ, List.getElem?_cons_zero]
    exact rfl
  case hQT0b2 => exact fun _ _ _ h => h
  case hyT0b2 =>
    refine Or.inl ⟨by rfl, ?_⟩
    intro w hSw
    (try dsimp only at hSw)
    go_simp
    (try with_reducible rfl)
  (try simp only [Act.put, List.setIfInBounds_toArray, List.set_cons_zero, List.set_cons_succ])
  refine' wpAnyH_take (i := 1) (oi := ?oiT1b2) (v := ?vT1b2) ?hiT1b2 (by kernel_rfl) (by kernel_rfl) (by kernel_rfl) ?hQT1b2 ?hyT1b2 hS ?restT1b2
  case hiT1b2 =>
    simp only [List.getElem?_toArray, List.getElem?_cons_succ, List.getElem?_cons_zero]
    exact rfl
  case hQT1b2 => exact fun _ _ _ h => h
  case hyT1b2 =>
    refine Or.inl ⟨by rfl, ?_⟩
    intro w hSw
    (try dsimp only at hSw)
    go_simp
    (try with_reducible rfl)
  (try simp only [Act.put, List.setIfInBounds_toArray, List.set_cons_zero, List.set_cons_succ])
  refine' wpAnyH_take (i := 2) (oi := ?oiT2b2) (v := ?vT2b2) ?hiT2b2 (by kernel_rfl) (by kernel_rfl) (by kernel_rfl) ?hQT2b2 ?hyT2b2 hS ?restT2b2
  case hiT2b2 =>
    simp only [List.getElem?_toArray, List.getElem?_cons_succ, List.getElem?_cons_zero]
    exact rfl
  case hQT2b2 => exact fun _ _ _ h => h
  case hyT2b2 =>
    refine Or.inl ⟨by rfl, ?_⟩
    intro w hSw
    (try dsimp only at hSw)
    go_simp
    (try with_reducible rfl)
  (try simp only [Act.put, List.setIfInBounds_toArray, List.set_cons_zero, List.set_cons_succ])
  refine' wpAnyH_take (i := 3) (oi := ?oiT3b2) (v := ?vT3b2) ?hiT3b2 (by kernel_rfl) (by kernel_rfl) (by kernel_rfl) ?hQT3b2 ?hyT3b2 hS ?restT3b2
  case hiT3b2 =>
    simp only [List.getElem?_toArray, List.getElem?_cons_succ, List.getElem?_cons_zero]
    exact rfl
  case hQT3b2 => exact fun _ _ _ h => h
  case hyT3b2 =>
    refine Or.inl ⟨by rfl, ?_⟩
    intro w hSw
    (try dsimp only at hSw)
    go_simp
    (try with_reducible rfl)
  (try simp only [Act.put, List.setIfInBounds_toArray, List.set_cons_zero, List.set_cons_succ])
  refine' wpAnyH_take (i := 4) (oi := ?oiT4b2) (v := ?vT4b2) ?hiT4b2 (by kernel_rfl) (by kernel_rfl) (by kernel_rfl) ?hQT4b2 ?hyT4b2 hS ?restT4b2
  case hiT4b2 =>
    simp only [List.getElem?_toArray, List.getElem?_cons_succ, List.getElem?_cons_zero]
    exact rfl
  case hQT4b2 => exact fun _ _ _ h => h
  case hyT4b2 =>
    refine Or.inl ⟨by rfl, ?_⟩
    intro w hSw
    (try dsimp only at hSw)
    go_simp
    (try with_reducible rfl)
  (try simp only [Act.put, List.setIfInBounds_toArray, List.set_cons_zero, List.set_cons_succ])
  refine' wpAnyH_take (i := 5) (oi := ?oiT5b2) (v := ?vT5b2) ?hiT5b2 (by kernel_rfl) (by kernel_rfl) (by kernel_rfl) ?hQT5b2 ?hyT5b2 hS ?restT5b2
  case hiT5b2 =>
    simp only [List.getElem?_toArray, List.getElem?_cons_succ, List.getElem?_cons_zero]
    exact rfl
  case hQT5b2 => exact fun _ _ _ h => h
  case hyT5b2 =>
    refine Or.inl ⟨by rfl, ?_⟩
    intro w hSw
    (try dsimp only at hSw)
    go_simp
    (try with_reducible rfl)
  (try simp only [Act.put, List.setIfInBounds_toArray, List.set_cons_zero, List.set_cons_succ])
  refine' wpAnyH_take (i := 6) (oi := ?oiT6b2) (v := ?vT6b2) ?hiT6b2 (by kernel_rfl) (by kernel_rfl) (by kernel_rfl) ?hQT6b2 ?hyT6b2 hS ?restT6b2
  case hiT6b2 =>
    simp only [List.getElem?_toArray, List.getElem?_cons_succ, List.getElem?_cons_zero]
    exact rfl
  case hQT6b2 => exact fun _ _ _ h => h
  case hyT6b2 =>
    refine Or.inl ⟨by rfl, ?_⟩
    intro w hSw
    (try dsimp only at hSw)
    go_simp
    (try with_reducible rfl)
  (try simp only [Act.put, List.setIfInBounds_toArray, List.set_cons_zero, List.set_cons_succ])
  refine wpAnyH_ready (rs := [7]) (by kernel_rfl) (by simp) ?_
  refine' AllReadyH.cons (o := ?ooC7b2) ?hoC7b2 (fun K hK => ?stepC7b2) AllReadyH.nil
  case hoC7b2 =>
    simp only [List.getElem?_toArray, List.getElem?_cons_succ, List.getElem?_cons_zero]
    exact rfl
  go_simp
  go_at_call 60
  refine (IB.out _).mono ?_
  rintro e w1 ⟨rfl, hb1⟩
  go_wp2_with fail
  refine hK.out _ _ ?_ (fun hS => ?_)
  · (try dsimp only)
    go_split_ands
    (repeat' apply And.intro) <;> first | (refine cell_later hb1 ?_; with_reducible assumption) | (refine below_then ?_ hb1; with_reducible assumption)
  clear hK K hb1
  (try simp only [Act.put, List.setIfInBounds_toArray, List.set_cons_zero, List.set_cons_succ])
  refine' wpAnyH_take (i := 8) (oi := ?oiT8b2) (v := ?vT8b2) ?hiT8b2 (by kernel_rfl) (by kernel_rfl) (by kernel_rfl) ?hQT8b2 ?hyT8b2 hS ?restT8b2
  case hiT8b2 =>
    simp only [List.getElem?_toArray, List.getElem?_cons_succ, List.getElem?_cons_zero]
    exact rfl
  case hQT8b2 => exact fun _ _ _ h => h
  case hyT8b2 =>
    refine Or.inl ⟨by rfl, ?_⟩
    intro w hSw
    (try dsimp only at hSw)
    go_simp
    (try with_reducible rfl)
  (try simp only [Act.put, List.setIfInBounds_toArray, List.set_cons_zero, List.set_cons_succ])
  refine wpAnyH_done (by kernel_rfl) ?_ _
  have hB2 := hS
  clear hS
  go_wp2
  rw [Exit.noGoto_ret]
  go_wp2
  (try rw [Exit.noGoto_ret])
  go_ret
  exact ⟨rfl, hB2⟩
set_option maxHeartbeats 2000000 in
theorem rune_high3 (r : Int) (h : 128 ≤ r) (hn : ¬ r = 65533) (hv : Lib.validRune r = true) (hs : (Utf8.encode r).size = 4) (hc : ∀ h, 128 ≤ ((Utf8.encode r)[3]'h).toNat) (W : World) :
    Calls Tryd.prog 46 #[.string ⟨#[48, 49, 50, 51, 52, 53, 54, 55, 56, 57]⟩, .int .i32 r] W fun e w' => e = .returned (.int .i64 (-1)) ∧ Below W.heap.size W w' := by
  have VR := fun W => (Tryd.utf8_ValidRune r W).mono (R' := fun e w' => e = .returned (.bool (Lib.validRune r)) ∧ W = w') (fun e w' ⟨a, b⟩ => ⟨a, b.symm⟩)
  rw [hv] at VR
  have VR := Lib.hid VR
  have h1 : (r == 65533) = false := by rw [beq_eq_false_iff_ne]; exact hn
  obtain ⟨E, hE⟩ : ∃ E, Utf8.encode r = E := ⟨_, rfl⟩
  have hs : E.size = 4 := by rw [← hE]; exact hs
  have hc : ∀ h, 128 ≤ (E[3]'h).toNat := by subst hE; exact hc
  have hlt : 3 < E.size := by omega
  have hc1 := hc hlt
  obtain ⟨c, hcc⟩ : ∃ c, E[3] = c := ⟨_, rfl⟩
  rw [hcc] at hc1
  have hB0 := Below.refl W.heap.size W
  have n1 : ((51 : Int) == (c.toNat : Int)) = false := by rw [beq_eq_false_iff_ne]; omega
  have n2 : ¬ (51 : Int) = (c.toNat : Int) := by omega
  have IB := fun W => (Tryd.strings_IndexByte ((⟨#[48, 49, 50, 51, 52, 53, 54, 55, 56, 57]⟩ : ByteArray).extract 4 10) c.toNat W).mono (R' := fun e w' => e = .returned (.int .i64 (Lib.indexByte ((⟨#[48, 49, 50, 51, 52, 53, 54, 55, 56, 57]⟩ : ByteArray).extract 4 10).data.toList ((c.toNat : Int)).toNat.toUInt8)) ∧ Below W.heap.size W w') (fun e w' ⟨a, b⟩ => ⟨a, by rw [b]; exact Below.refl _ _⟩)
  rw [show ((c.toNat : Int)).toNat.toUInt8 = c by simp, iB_none ((⟨#[48, 49, 50, 51, 52, 53, 54, 55, 56, 57]⟩ : ByteArray).extract 4 10).data.toList c (by decide) hc1] at IB
  have IB := Lib.hid IB
  have e1 : (E.size : Int) - 1 = 3 := by omega
  have e2 : (E.size : Int) = 4 := by omega
  have w9 : IntKind.i64.wrap (4 : Int) = 4 := rfl
  clear hv hc
  go_enter Tryd.func46, Tryd.ntmps46
  go_wp2_with fail
  refine (VR.out _).mono ?_
  rintro e w' ⟨rfl, rfl⟩
  go_wp2
  go_step3
  go_wp2
  refine wp_loop_rounds 1 ?_
  rw [rounds_succ]
  go_wp2
  go_step3
  go_wp2
  refine wp_region_held_drew (S := fun w' => Below W.heap.size W w') (by kernel_rfl) ?_ (fun hS => ?_)
  · (try dsimp only)
    (repeat' apply And.intro) <;> first | go_cell | exact hB0.drew
  refine' wpAnyH_take (i := 0) (oi := ?oiT0a3) (v := ?vT0a3) ?hiT0a3 (by kernel_rfl) (by kernel_rfl) (by kernel_rfl) ?hQT0a3 ?hyT0a3 hS ?restT0a3
  case hiT0a3 =>
    simp only [List.getElem?_toArray, List.getElem?_cons_succ, List.getElem?_cons_zero]
    exact rfl
  case hQT0a3 => exact fun _ _ _ h => h
  case hyT0a3 =>
    refine Or.inl ⟨by rfl, ?_⟩
    intro w hSw
    (try dsimp only at hSw)
    go_simp
    (try with_reducible rfl)
  (try simp only [Act.put, List.setIfInBounds_toArray, List.set_cons_zero, List.set_cons_succ])
  refine' wpAnyH_take (i := 1) (oi := ?oiT1a3) (v := ?vT1a3) ?hiT1a3 (by kernel_rfl) (by kernel_rfl) (by kernel_rfl) ?hQT1a3 ?hyT1a3 hS ?restT1a3
  case hiT1a3 =>
    simp only [List.getElem?_toArray, List.getElem?_cons_succ, List.getElem?_cons_zero]
    exact rfl
  case hQT1a3 => exact fun _ _ _ h => h
  case hyT1a3 =>
    refine Or.inl ⟨by rfl, ?_⟩
    intro w hSw
    (try dsimp only at hSw)
    go_simp
    (try with_reducible rfl)
  (try simp only [Act.put, List.setIfInBounds_toArray, List.set_cons_zero, List.set_cons_succ])
  refine' wpAnyH_take (i := 2) (oi := ?oiT2a3) (v := .int .u8 51) ?hiT2a3 (by kernel_rfl) (by kernel_rfl) (by kernel_rfl) ?hQT2a3 ?hyT2a3 hS ?restT2a3
  case hiT2a3 =>
    simp only [List.getElem?_toArray, List.getElem?_cons_succ, List.getElem?_cons_zero]
    exact rfl
  case hQT2a3 => exact fun _ _ _ h => h
  case hyT2a3 =>
    refine Or.inl ⟨by rfl, ?_⟩
    intro w hSw
    (try dsimp only at hSw)
    go_simp
    (try rfl)
  (try simp only [Act.put, List.setIfInBounds_toArray, List.set_cons_zero, List.set_cons_succ])
  refine' wpAnyH_take (i := 3) (oi := ?oiT3a3) (v := ?vT3a3) ?hiT3a3 (by kernel_rfl) (by kernel_rfl) (by kernel_rfl) ?hQT3a3 ?hyT3a3 hS ?restT3a3
  case hiT3a3 =>
    simp only [List.getElem?_toArray, List.getElem?_cons_succ, List.getElem?_cons_zero]
    exact rfl
  case hQT3a3 => exact fun _ _ _ h => h
  case hyT3a3 =>
    refine Or.inl ⟨by rfl, ?_⟩
    intro w hSw
    (try dsimp only at hSw)
    go_simp
    (try with_reducible rfl)
  (try simp only [Act.put, List.setIfInBounds_toArray, List.set_cons_zero, List.set_cons_succ])
  refine' wpAnyH_take (i := 4) (oi := ?oiT4a3) (v := ?vT4a3) ?hiT4a3 (by kernel_rfl) (by kernel_rfl) (by kernel_rfl) ?hQT4a3 ?hyT4a3 hS ?restT4a3
  case hiT4a3 =>
    simp only [List.getElem?_toArray, List.getElem?_cons_succ, List.getElem?_cons_zero]
    exact rfl
  case hQT4a3 => exact fun _ _ _ h => h
  case hyT4a3 =>
    refine Or.inl ⟨by rfl, ?_⟩
    intro w hSw
    (try dsimp only at hSw)
    go_simp
    (try with_reducible rfl)
  (try simp only [Act.put, List.setIfInBounds_toArray, List.set_cons_zero, List.set_cons_succ])
  refine' wpAnyH_take (i := 5) (oi := ?oiT5a3) (v := ?vT5a3) ?hiT5a3 (by kernel_rfl) (by kernel_rfl) (by kernel_rfl) ?hQT5a3 ?hyT5a3 hS ?restT5a3
  case hiT5a3 =>
    simp only [List.getElem?_toArray, List.getElem?_cons_succ, List.getElem?_cons_zero]
    exact rfl
  case hQT5a3 => exact fun _ _ _ h => h
  case hyT5a3 =>
    refine Or.inl ⟨by rfl, ?_⟩
    intro w hSw
    (try dsimp only at hSw)
    go_simp
    (try with_reducible rfl)
  (try simp only [Act.put, List.setIfInBounds_toArray, List.set_cons_zero, List.set_cons_succ])
  refine' wpAnyH_take (i := 6) (oi := ?oiT6a3) (v := ?vT6a3) ?hiT6a3 (by kernel_rfl) (by kernel_rfl) (by kernel_rfl) ?hQT6a3 ?hyT6a3 hS ?restT6a3
  case hiT6a3 =>
    simp only [List.getElem?_toArray, List.getElem?_cons_succ, List.getElem?_cons_zero]
    exact rfl
  case hQT6a3 => exact fun _ _ _ h => h
  case hyT6a3 =>
    refine Or.inl ⟨by rfl, ?_⟩
    intro w hSw
    (try dsimp only at hSw)
    go_simp
    (try with_reducible rfl)
  (try simp only [Act.put, List.setIfInBounds_toArray, List.set_cons_zero, List.set_cons_succ])
  refine wpAnyH_done (by kernel_rfl) ?_ _
  have hB1 := hS
  clear hS
  go_wp2
  refine wp_region_held_drew (S := fun w' => Below W.heap.size W w') (by kernel_rfl) ?_ (fun hS => ?_)
  · (try dsimp only)
    (repeat' apply And.intro) <;> first | go_cell | exact hB1.drew
  refine' wpAnyH_take (i := 0) (oi := ?oiT0b3) (v := ?vT0b3) ?hiT0b3 (by kernel_rfl) (by kernel_rfl) (by kernel_rfl) ?hQT0b3 ?hyT0b3 hS ?restT0b3
  case hiT0b3 =>
    simp only [List.getElem?_toArray, List.getElem?_cons_succ, List.getElem?_cons_zero]
    exact rfl
  case hQT0b3 => exact fun _ _ _ h => h
  case hyT0b3 =>
    refine Or.inl ⟨by rfl, ?_⟩
    intro w hSw
    (try dsimp only at hSw)
    go_simp
    (try with_reducible rfl)
  (try simp only [Act.put, List.setIfInBounds_toArray, List.set_cons_zero, List.set_cons_succ])
  refine' wpAnyH_take (i := 1) (oi := ?oiT1b3) (v := ?vT1b3) ?hiT1b3 (by kernel_rfl) (by kernel_rfl) (by kernel_rfl) ?hQT1b3 ?hyT1b3 hS ?restT1b3
  case hiT1b3 =>
    simp only [List.getElem?_toArray, List.getElem?_cons_succ, List.getElem?_cons_zero]
    exact rfl
  case hQT1b3 => exact fun _ _ _ h => h
  case hyT1b3 =>
    refine Or.inl ⟨by rfl, ?_⟩
    intro w hSw
    (try dsimp only at hSw)
    go_simp
    (try with_reducible rfl)
  (try simp only [Act.put, List.setIfInBounds_toArray, List.set_cons_zero, List.set_cons_succ])
  refine' wpAnyH_take (i := 2) (oi := ?oiT2b3) (v := ?vT2b3) ?hiT2b3 (by kernel_rfl) (by kernel_rfl) (by kernel_rfl) ?hQT2b3 ?hyT2b3 hS ?restT2b3
  case hiT2b3 =>
    simp only [List.getElem?_toArray, List.getElem?_cons_succ, List.getElem?_cons_zero]
    exact rfl
  case hQT2b3 => exact fun _ _ _ h => h
  case hyT2b3 =>
    refine Or.inl ⟨by rfl, ?_⟩
    intro w hSw
    (try dsimp only at hSw)
    go_simp
    (try with_reducible rfl)
  (try simp only [Act.put, List.setIfInBounds_toArray, List.set_cons_zero, List.set_cons_succ])
  refine' wpAnyH_take (i := 3) (oi := ?oiT3b3) (v := ?vT3b3) ?hiT3b3 (by kernel_rfl) (by kernel_rfl) (by kernel_rfl) ?hQT3b3 ?hyT3b3 hS ?restT3b3
  case hiT3b3 =>
    simp only [List.getElem?_toArray, List.getElem?_cons_succ, List.getElem?_cons_zero]
    exact rfl
  case hQT3b3 => exact fun _ _ _ h => h
  case hyT3b3 =>
    refine Or.inl ⟨by rfl, ?_⟩
    intro w hSw
    (try dsimp only at hSw)
    go_simp
    (try with_reducible rfl)
  (try simp only [Act.put, List.setIfInBounds_toArray, List.set_cons_zero, List.set_cons_succ])
  refine' wpAnyH_take (i := 4) (oi := ?oiT4b3) (v := ?vT4b3) ?hiT4b3 (by kernel_rfl) (by kernel_rfl) (by kernel_rfl) ?hQT4b3 ?hyT4b3 hS ?restT4b3
  case hiT4b3 =>
    simp only [List.getElem?_toArray, List.getElem?_cons_succ, List.getElem?_cons_zero]
    exact rfl
  case hQT4b3 => exact fun _ _ _ h => h
  case hyT4b3 =>
    refine Or.inl ⟨by rfl, ?_⟩
    intro w hSw
    (try dsimp only at hSw)
    go_simp
    (try with_reducible rfl)
  (try simp only [Act.put, List.setIfInBounds_toArray, List.set_cons_zero, List.set_cons_succ])
  refine' wpAnyH_take (i := 5) (oi := ?oiT5b3) (v := ?vT5b3) ?hiT5b3 (by kernel_rfl) (by kernel_rfl) (by kernel_rfl) ?hQT5b3 ?hyT5b3 hS ?restT5b3
  case hiT5b3 =>
    simp only [List.getElem?_toArray, List.getElem?_cons_succ, List.getElem?_cons_zero]
    exact rfl
  case hQT5b3 => exact fun _ _ _ h => h
  case hyT5b3 =>
    refine Or.inl ⟨by rfl, ?_⟩
    intro w hSw
    (try dsimp only at hSw)
    go_simp
    (try with_reducible rfl)
  (try simp only [Act.put, List.setIfInBounds_toArray, List.set_cons_zero, List.set_cons_succ])
  refine' wpAnyH_take (i := 6) (oi := ?oiT6b3) (v := ?vT6b3) ?hiT6b3 (by kernel_rfl) (by kernel_rfl) (by kernel_rfl) ?hQT6b3 ?hyT6b3 hS ?restT6b3
  case hiT6b3 =>
    simp only [List.getElem?_toArray, List.getElem?_cons_succ, List.getElem?_cons_zero]
    exact rfl
  case hQT6b3 => exact fun _ _ _ h => h
  case hyT6b3 =>
    refine Or.inl ⟨by rfl, ?_⟩
    intro w hSw
    (try dsimp only at hSw)
    go_simp
    (try with_reducible rfl)
  (try simp only [Act.put, List.setIfInBounds_toArray, List.set_cons_zero, List.set_cons_succ])
  refine wpAnyH_ready (rs := [7]) (by kernel_rfl) (by simp) ?_
  refine' AllReadyH.cons (o := ?ooC7b3) ?hoC7b3 (fun K hK => ?stepC7b3) AllReadyH.nil
  case hoC7b3 =>
    simp only [List.getElem?_toArray, List.getElem?_cons_succ, List.getElem?_cons_zero]
    exact rfl
  go_simp
  go_at_call 60
  refine (IB.out _).mono ?_
  rintro e w1 ⟨rfl, hb1⟩
  go_wp2_with fail
  refine hK.out _ _ ?_ (fun hS => ?_)
  · (try dsimp only)
    go_split_ands
    (repeat' apply And.intro) <;> first | (refine cell_later hb1 ?_; with_reducible assumption) | (refine below_then ?_ hb1; with_reducible assumption)
  clear hK K hb1
  (try simp only [Act.put, List.setIfInBounds_toArray, List.set_cons_zero, List.set_cons_succ])
  refine' wpAnyH_take (i := 8) (oi := ?oiT8b3) (v := ?vT8b3) ?hiT8b3 (by kernel_rfl) (by kernel_rfl) (by kernel_rfl) ?hQT8b3 ?hyT8b3 hS ?restT8b3
  case hiT8b3 =>
    simp only [List.getElem?_toArray, List.getElem?_cons_succ, List.getElem?_cons_zero]
    exact rfl
  case hQT8b3 => exact fun _ _ _ h => h
  case hyT8b3 =>
    refine Or.inl ⟨by rfl, ?_⟩
    intro w hSw
    (try dsimp only at hSw)
    go_simp
    (try with_reducible rfl)
  (try simp only [Act.put, List.setIfInBounds_toArray, List.set_cons_zero, List.set_cons_succ])
  refine wpAnyH_done (by kernel_rfl) ?_ _
  have hB2 := hS
  clear hS
  go_wp2
  rw [Exit.noGoto_ret]
  go_wp2
  (try rw [Exit.noGoto_ret])
  go_ret
  exact ⟨rfl, hB2⟩
theorem rune_high (r : Int) (h : 128 ≤ r) (W : World) :
    Calls Tryd.prog 46 #[.string ⟨#[48, 49, 50, 51, 52, 53, 54, 55, 56, 57]⟩, .int .i32 r] W fun e w' => e = .returned (.int .i64 (-1)) ∧ Below W.heap.size W w' := by
  by_cases hn : r = 65533
  · subst hn; exact rune_bad W
  · cases hv : Lib.validRune r
    · exact rune_void r h hn hv W
    · have hu : Utf8.valid r = true := by
        rw [validRune_eq]
        unfold Go.validRune
        unfold Lib.validRune at hv
        simpa using hv
      obtain ⟨s1, s2, s3⟩ := encode_facts r hu h
      have hl : (Utf8.encode r).size - 1 < (Utf8.encode r).size := by omega
      have h3 := s3 hl
      have hcases : (Utf8.encode r).size = 2 ∨ (Utf8.encode r).size = 3 ∨ (Utf8.encode r).size = 4 := by omega
      rcases hcases with q | q | q
      · refine rune_high1 r h hn hv q (fun h' => ?_) W
        have := s3 hl
        simp only [q] at this
        exact this
      · refine rune_high2 r h hn hv q (fun h' => ?_) W
        have := s3 hl
        simp only [q] at this
        exact this
      · refine rune_high3 r h hn hv q (fun h' => ?_) W
        have := s3 hl
        simp only [q] at this
        exact this
end Go.Proofs.YtmiahbaadlddjaaDoor
