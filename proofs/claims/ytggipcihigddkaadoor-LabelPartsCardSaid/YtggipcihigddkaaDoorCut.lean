/- label.take: one label at the front of a text. -/
import Derived.Test.YtggipcihigddkaaDoorTakeE
import Derived.Lib.IndexBytes
namespace Go.Proofs.YtggipcihigddkaaDoor
open Go Go.Proofs Go.RowKit Go.Shelf
set_option maxRecDepth 100000
theorem ib_take (c : UInt8) : ∀ l : List UInt8, (Lib.indexByte l c = -1 ∧ l.contains c = false) ∨ (∃ i : Nat, Lib.indexByte l c = (i : Int) ∧ i < l.length ∧ l.take i = l.takeWhile (· != c) ∧ l.drop (i + 1) = (l.dropWhile (· != c)).drop 1 ∧ l.contains c = true) := by
  intro l
  induction l with
  | nil => left; exact ⟨rfl, rfl⟩
  | cons b t ih =>
    unfold Lib.indexByte
    by_cases h : b = c
    · subst h
      right
      refine ⟨0, by simp, by simp, ?_, ?_, by simp⟩
      · simp
      · simp
    · have hne : (b != c) = true := by simpa using h
      rcases ih with ⟨h1, h2⟩ | ⟨i, h1, h2, h3, h4, h5⟩
      · left
        refine ⟨by simp [h, h1], ?_⟩
        rw [List.contains_cons, h2, Bool.or_false, beq_eq_false_iff_ne]
        exact fun e => h e.symm
      · right
        refine ⟨i + 1, ?_, by simp; omega, ?_, ?_, ?_⟩
        · have e3 : ¬ (i : Int) = -1 := by omega
          simp [h, h1, e3]
        · rw [List.takeWhile_cons, if_pos hne, List.take_succ_cons, h3]
        · rw [List.dropWhile_cons, if_pos hne, List.drop_succ_cons, h4]
        · rw [List.contains_cons, h5, Bool.or_true]
def cutR (l : List UInt8) : List UInt8 × List UInt8 × Bool := if l.contains 61 = true then (l.takeWhile (· != 61), (l.dropWhile (· != 61)).drop 1, true) else (l, [], false)
set_option maxHeartbeats 1000000 in
theorem slcut_at (s : ByteArray) (l : List UInt8) (hud : s.data.toList = l) (hl : l.length ≤ 100000) (w : World) :
    Calls Tryd.prog 81 #[.string s, .string ⟨#[61]⟩] w fun e w' => e = .returned (.tuple #[.string ⟨(cutR l).1.toArray⟩, .string ⟨(cutR l).2.1.toArray⟩, .bool (cutR l).2.2]) ∧ Below w.heap.size w w' := by
  have hsz : s.size = l.length := by rw [Lib.size_eq, hud]
  have I := fun W => (Tryd.stringslite_Index_one s 61 W).mono (R' := fun e w' => e = .returned (.int .i64 (Lib.indexByte l 61)) ∧ W = w') (fun e w' ⟨a, b⟩ => ⟨by rw [a, hud], b.symm⟩)
  have H := Lib.hid I
  clear I
  rcases ib_take 61 l with ⟨h1, h2⟩ | ⟨i, h1, h2, h3, h4, h5⟩
  · rw [h1] at H
    have HS := Lib.hid (bytes_mk s l hud)
    rw [show cutR l = (l, [], false) from if_neg (by rw [h2]; simp)]
    dsimp only
    clear hud h1 h2
    go_enter Tryd.func81, Tryd.ntmps81
    go_wp2_with fail
    refine (H.out _).mono ?_
    rintro e w1 ⟨rfl, rfl⟩
    go_wp2
    go_ret3
    exact ⟨by rw [← HS.out]; rfl, Below.refl _ _⟩
  · rw [h1] at H
    have x1 : s.extract 0 i = ⟨(l.takeWhile (· != 61)).toArray⟩ := bytes_mk _ _ (by rw [Lib.extract_data, hud, ← h3]; simp)
    have x2 : s.extract (i + 1) l.length = ⟨((l.dropWhile (· != 61)).drop 1).toArray⟩ := by
      rw [← hsz]
      exact bytes_mk _ _ (by rw [Lib.extract_to_end, hud, h4])
    rw [show cutR l = (l.takeWhile (· != 61), (l.dropWhile (· != 61)).drop 1, true) from if_pos h5]
    dsimp only
    generalize l.takeWhile (· != 61) = p at *
    generalize (l.dropWhile (· != 61)).drop 1 = q at *
    have e0 : (0 : Int) ≤ (i : Int) := by omega
    have e1 : (i : Int) ≤ (l.length : Int) := by omega
    have e2 : (0 : Int) ≤ (i : Int) + 1 := by omega
    have e3 : (i : Int) + 1 ≤ (l.length : Int) := by omega
    have e4 : IntKind.i64.wrap ((i : Int) + 1) = (i : Int) + 1 := by rw [IntKind.wrap_i64]; omega
    have e5 : i ≤ l.length := by omega
    have X1 := Lib.hid x1
    have X2 := Lib.hid x2
    clear hud h1 h3 h4 h5 x1 x2
    have hB0 := Below.refl w.heap.size w
    go_enter Tryd.func81, Tryd.ntmps81
    go_wp2_with fail
    refine (H.out _).mono ?_
    rintro e w1 ⟨rfl, rfl⟩
    go_wp2
    refine wp_region_held_drew (S := fun w' => Below w.heap.size w w') (by kernel_rfl) ?_ (fun hS => ?_)
    · (try dsimp only)
      (repeat' apply And.intro) <;> first | go_cell | exact hB0.drew
    refine' wpAnyH_take (i := 0) (oi := ?oiT0q) (v := ?vT0q) ?hiT0q (by kernel_rfl) (by kernel_rfl) (by kernel_rfl) ?hQT0q ?hyT0q hS ?restT0q
    case hiT0q =>
      simp only [List.getElem?_toArray, List.getElem?_cons_succ, List.getElem?_cons_zero]
      exact rfl
    case hQT0q => exact fun _ _ _ h => h
    case hyT0q =>
      refine Or.inl ⟨by rfl, ?_⟩
      intro w hSw
      (try dsimp only at hSw)
      go_simp
      (try with_reducible rfl)
    (try simp only [Act.put, List.setIfInBounds_toArray, List.set_cons_zero, List.set_cons_succ])
    refine' wpAnyH_take (i := 1) (oi := ?oiT1q) (v := ?vT1q) ?hiT1q (by kernel_rfl) (by kernel_rfl) (by kernel_rfl) ?hQT1q ?hyT1q hS ?restT1q
    case hiT1q =>
      simp only [List.getElem?_toArray, List.getElem?_cons_succ, List.getElem?_cons_zero]
      exact rfl
    case hQT1q => exact fun _ _ _ h => h
    case hyT1q =>
      refine Or.inl ⟨by rfl, ?_⟩
      intro w hSw
      (try dsimp only at hSw)
      go_simp
      (try with_reducible rfl)
    (try simp only [Act.put, List.setIfInBounds_toArray, List.set_cons_zero, List.set_cons_succ])
    refine' wpAnyH_take (i := 2) (oi := ?oiT2q) (v := ?vT2q) ?hiT2q (by kernel_rfl) (by kernel_rfl) (by kernel_rfl) ?hQT2q ?hyT2q hS ?restT2q
    case hiT2q =>
      simp only [List.getElem?_toArray, List.getElem?_cons_succ, List.getElem?_cons_zero]
      exact rfl
    case hQT2q => exact fun _ _ _ h => h
    case hyT2q =>
      refine Or.inl ⟨by rfl, ?_⟩
      intro w hSw
      (try dsimp only at hSw)
      go_simp
      (try with_reducible rfl)
    (try simp only [Act.put, List.setIfInBounds_toArray, List.set_cons_zero, List.set_cons_succ])
    refine' wpAnyH_take (i := 3) (oi := ?oiT3q) (v := ?vT3q) ?hiT3q (by kernel_rfl) (by kernel_rfl) (by kernel_rfl) ?hQT3q ?hyT3q hS ?restT3q
    case hiT3q =>
      simp only [List.getElem?_toArray, List.getElem?_cons_succ, List.getElem?_cons_zero]
      exact rfl
    case hQT3q => exact fun _ _ _ h => h
    case hyT3q =>
      refine Or.inl ⟨by rfl, ?_⟩
      intro w hSw
      (try dsimp only at hSw)
      go_simp
      (try with_reducible rfl)
    (try simp only [Act.put, List.setIfInBounds_toArray, List.set_cons_zero, List.set_cons_succ])
    refine' wpAnyH_take (i := 4) (oi := ?oiT4q) (v := ?vT4q) ?hiT4q (by kernel_rfl) (by kernel_rfl) (by kernel_rfl) ?hQT4q ?hyT4q hS ?restT4q
    case hiT4q =>
      simp only [List.getElem?_toArray, List.getElem?_cons_succ, List.getElem?_cons_zero]
      exact rfl
    case hQT4q => exact fun _ _ _ h => h
    case hyT4q =>
      refine Or.inl ⟨by rfl, ?_⟩
      intro w hSw
      (try dsimp only at hSw)
      go_simp
      (try with_reducible rfl)
    (try simp only [Act.put, List.setIfInBounds_toArray, List.set_cons_zero, List.set_cons_succ])
    refine' wpAnyH_take (i := 5) (oi := ?oiT5q) (v := ?vT5q) ?hiT5q (by kernel_rfl) (by kernel_rfl) (by kernel_rfl) ?hQT5q ?hyT5q hS ?restT5q
    case hiT5q =>
      simp only [List.getElem?_toArray, List.getElem?_cons_succ, List.getElem?_cons_zero]
      exact rfl
    case hQT5q => exact fun _ _ _ h => h
    case hyT5q =>
      refine Or.inl ⟨by rfl, ?_⟩
      intro w hSw
      (try dsimp only at hSw)
      go_simp
      (try with_reducible rfl)
    (try simp only [Act.put, List.setIfInBounds_toArray, List.set_cons_zero, List.set_cons_succ])
    refine' wpAnyH_take (i := 6) (oi := ?oiT6q) (v := ?vT6q) ?hiT6q (by kernel_rfl) (by kernel_rfl) (by kernel_rfl) ?hQT6q ?hyT6q hS ?restT6q
    case hiT6q =>
      simp only [List.getElem?_toArray, List.getElem?_cons_succ, List.getElem?_cons_zero]
      exact rfl
    case hQT6q => exact fun _ _ _ h => h
    case hyT6q =>
      refine Or.inl ⟨by rfl, ?_⟩
      intro w hSw
      (try dsimp only at hSw)
      go_simp
      (try with_reducible rfl)
    (try simp only [Act.put, List.setIfInBounds_toArray, List.set_cons_zero, List.set_cons_succ])
    refine' wpAnyH_take (i := 7) (oi := ?oiT7q) (v := ?vT7q) ?hiT7q (by kernel_rfl) (by kernel_rfl) (by kernel_rfl) ?hQT7q ?hyT7q hS ?restT7q
    case hiT7q =>
      simp only [List.getElem?_toArray, List.getElem?_cons_succ, List.getElem?_cons_zero]
      exact rfl
    case hQT7q => exact fun _ _ _ h => h
    case hyT7q =>
      refine Or.inl ⟨by rfl, ?_⟩
      intro w hSw
      (try dsimp only at hSw)
      go_simp
      (try with_reducible rfl)
    (try simp only [Act.put, List.setIfInBounds_toArray, List.set_cons_zero, List.set_cons_succ])
    refine' wpAnyH_take (i := 8) (oi := ?oiT8q) (v := ?vT8q) ?hiT8q (by kernel_rfl) (by kernel_rfl) (by kernel_rfl) ?hQT8q ?hyT8q hS ?restT8q
    case hiT8q =>
      simp only [List.getElem?_toArray, List.getElem?_cons_succ, List.getElem?_cons_zero]
      exact rfl
    case hQT8q => exact fun _ _ _ h => h
    case hyT8q =>
      refine Or.inl ⟨by rfl, ?_⟩
      intro w hSw
      (try dsimp only at hSw)
      go_simp
      (try with_reducible rfl)
    (try simp only [Act.put, List.setIfInBounds_toArray, List.set_cons_zero, List.set_cons_succ])
    refine' wpAnyH_take (i := 9) (oi := ?oiT9q) (v := ?vT9q) ?hiT9q (by kernel_rfl) (by kernel_rfl) (by kernel_rfl) ?hQT9q ?hyT9q hS ?restT9q
    case hiT9q =>
      simp only [List.getElem?_toArray, List.getElem?_cons_succ, List.getElem?_cons_zero]
      exact rfl
    case hQT9q => exact fun _ _ _ h => h
    case hyT9q =>
      refine Or.inl ⟨by rfl, ?_⟩
      intro w hSw
      (try dsimp only at hSw)
      go_simp
      (try with_reducible rfl)
    (try simp only [Act.put, List.setIfInBounds_toArray, List.set_cons_zero, List.set_cons_succ])
    refine' wpAnyH_take (i := 10) (oi := ?oiT10q) (v := ?vT10q) ?hiT10q (by kernel_rfl) (by kernel_rfl) (by kernel_rfl) ?hQT10q ?hyT10q hS ?restT10q
    case hiT10q =>
      simp only [List.getElem?_toArray, List.getElem?_cons_succ, List.getElem?_cons_zero]
      exact rfl
    case hQT10q => exact fun _ _ _ h => h
    case hyT10q =>
      refine Or.inl ⟨by rfl, ?_⟩
      intro w hSw
      (try dsimp only at hSw)
      go_simp
      (try with_reducible rfl)
    (try simp only [Act.put, List.setIfInBounds_toArray, List.set_cons_zero, List.set_cons_succ])
    refine' wpAnyH_take (i := 11) (oi := ?oiT11q) (v := ?vT11q) ?hiT11q (by kernel_rfl) (by kernel_rfl) (by kernel_rfl) ?hQT11q ?hyT11q hS ?restT11q
    case hiT11q =>
      simp only [List.getElem?_toArray, List.getElem?_cons_succ, List.getElem?_cons_zero]
      exact rfl
    case hQT11q => exact fun _ _ _ h => h
    case hyT11q =>
      refine Or.inl ⟨by rfl, ?_⟩
      intro w hSw
      (try dsimp only at hSw)
      go_simp
      (try with_reducible rfl)
    (try simp only [Act.put, List.setIfInBounds_toArray, List.set_cons_zero, List.set_cons_succ])
    refine wpAnyH_done (by kernel_rfl) ?_ _
    have hB2 := hS
    clear hS
    go_wp2
    go_ret3
    exact ⟨by rw [← X1.out, ← X2.out]; rfl, hB2⟩
theorem cut_any (l : List UInt8) (hl : l.length ≤ 100000) (w : World) :
    Calls Tryd.prog 71 #[.string ⟨l.toArray⟩, .string ⟨#[61]⟩] w fun e w' => e = .returned (.tuple #[.string ⟨(cutR l).1.toArray⟩, .string ⟨(cutR l).2.1.toArray⟩, .bool (cutR l).2.2]) ∧ Below w.heap.size w w' := by
  have H := Lib.hid (fun W => slcut_at ⟨l.toArray⟩ l rfl hl W)
  generalize (cutR l).1 = a at *
  generalize (cutR l).2.1 = b at *
  generalize (cutR l).2.2 = c at *
  go_enter Tryd.func71, Tryd.ntmps71
  go_wp2_with fail
  refine (H.out _).mono ?_
  rintro e w1 ⟨rfl, hb1⟩
  go_wp2
  go_ret3
  exact ⟨rfl, hb1⟩
end Go.Proofs.YtggipcihigddkaaDoor
