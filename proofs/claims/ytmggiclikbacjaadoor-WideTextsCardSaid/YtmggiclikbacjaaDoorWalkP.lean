/- Parse's step: ten times what is there, and a digit with its sign. -/
import Derived.Test.YtmggiclikbacjaaDoorWalkG
namespace Go.Proofs.YtmggiclikbacjaaDoor
open Go Go.Proofs Go.RowKit
set_option maxRecDepth 100000

theorem OwnN.three {w : World} {b : Nat} (h : OwnN 3 w b) : ∃ v0 v1 v2, At w b [v0, v1, v2] := by
  obtain ⟨l, hl, h⟩ := h
  match l, hl with
  | [v0, v1, v2], _ => exact ⟨v0, v1, v2, h⟩

set_option maxHeartbeats 2000000 in
theorem parseStep_raw (sb : Nat) (sg x c n x0 x1 x2 z0 z1 z2 : Int) (hx : IsL x x0 x1 x2) (hz : IsL (x * 10 + n) z0 z1 z2) (hc1 : 48 ≤ c) (hc2 : c ≤ 57)
    (hs : (sg = 1 ∧ n = c - 48) ∨ (sg = -1 ∧ n = 48 - c)) (w : World) (hS : At w sb [.int .i64 sg]) :
    Calls Tryd.prog 38 #[.agg #[.int .u64 x0, .int .u64 x1, .int .u64 x2], .int .u8 c, .pointer (some ⟨sb, 0, none⟩)] w fun e w' => e = .returned (.agg #[.int .u64 z0, .int .u64 z1, .int .u64 z2]) ∧ Below w.heap.size w w' := by
  obtain ⟨y0, y1, y2, hy⟩ := isL_ex (x * 10)
  obtain ⟨nh, nl, ni, nv⟩ := fits_ex (v := n) (by unfold Fits; omega)
  obtain ⟨t0, t1, t2, ht⟩ := isL_ex n
  have S := Lib.hid (fun W => scale_any x 10 x0 x1 x2 y0 y1 y2 hx hy (by omega) W)
  have O := Lib.hid (fun W => Of_any n nh nl (by unfold I64; omega) ni nv W)
  have Y := Lib.hid (fun W => extend_l nh nl t0 t1 t2 ni (by rw [nv]; exact ht) W)
  have Z := Lib.hid (fun W => add_any (x * 10) n y0 y1 y2 t0 t1 t2 z0 z1 z2 hy ht hz W)
  have s0 := hS.cell 0 _ rfl
  have hlt := hS.lt
  clear hx hy hz ht ni nv
  rcases hs with ⟨rfl, rfl⟩ | ⟨rfl, rfl⟩
  · have ew : IntKind.i64.wrap (IntKind.i64.wrap (IntKind.u8.wrap (c - 48))) = c - 48 := by rw [IntKind.wrap_i64, IntKind.wrap_i64, IntKind.wrap_u8]; omega
    go_enter Tryd.func38, Tryd.ntmps38
    go_wp2_with fail
    go_region_held3 (fun w' => w'.cell? ⟨w.heap.size, 0, none⟩ = some (.int .u64 x0) ∧ w'.cell? ⟨w.heap.size, 1, none⟩ = some (.int .u64 x1) ∧ w'.cell? ⟨w.heap.size, 2, none⟩ = some (.int .u64 x2) ∧
        w'.cell? ⟨sb, 0, none⟩ = some (.int .i64 1) ∧ OwnN 3 w' (w.heap.size + 1) ∧ w.heap.size ≤ w'.heap.size ∧ Below w.heap.size w w')
      (first
        | ((repeat' apply And.intro) <;> first | go_cell | (have h := (At.new (w.alloc (.cells #[.int .u64 x0, .int .u64 x1, .int .u64 x2] 59)) #[.int .u64 0, .int .u64 0, .int .u64 0] 59).drew.own; simpa using h) | (simp; omega) | (with_reducible exact (((Below.refl _ _).alloc (Nat.le_refl _) _).alloc (by simp) _).drew))
        | (go_split_ands
           (repeat' apply And.intro) <;> first | (refine cell_later hb ?_; with_reducible assumption) | (refine OwnN.below ?_ hb; with_reducible assumption) | (refine Nat.le_trans ?_ hb.size; with_reducible assumption) | (refine Below.trans ?_ (hb.mono ?_) <;> with_reducible assumption))
        | (go_split_ands
           (repeat' apply And.intro) <;> first | go_cell | (refine OwnN.set (OwnN.set (OwnN.set ?_ _ _) _ _) _ _; with_reducible assumption) | (simp; with_reducible assumption) | go_grown))
      (first
        | (go_at_call 39; refine (S.out _).mono ?_; rintro e w1 ⟨rfl, hb⟩)
        | (go_at_call 22; refine (O.out _).mono ?_; rintro e w1 ⟨rfl, hb⟩)
        | (go_at_call 30; refine (Y.out _).mono ?_; rintro e w1 ⟨rfl, hb⟩)
        | (go_at_call 29; refine (Z.out _).mono ?_; rintro e w1 ⟨rfl, hb⟩; go_split_ands; have hO : OwnN 3 w1 (w.heap.size + 1) := OwnN.below (by with_reducible assumption) hb; obtain ⟨v0, v1, v2, hA⟩ := hO.three; have r0 := hA.cell 0 _ rfl; have r1 := hA.cell 1 _ rfl; have r2 := hA.cell 2 _ rfl; have q0 := hA.free 0 _ rfl; have q1 := hA.free 1 _ rfl; have q2 := hA.free 2 _ rfl))
    all_goals
      rename_i hH
      have hB := hH.2.2.2.2.2.2
      clear hH
      go_wp2
      have s0 := same0 r0
      have s1 := same1 r1
      have s2 := same2 r2
      refine bodyPost_ret (v := .agg #[.int .u64 z0, .int .u64 z1, .int .u64 z2]) (by simp [results, Tryd.results38, go_sem, s0, s1, s2]) rfl ⟨rfl, by go_grown⟩

  · have ew : IntKind.i64.wrap (-IntKind.i64.wrap (IntKind.u8.wrap (c - 48))) = 48 - c := by rw [IntKind.wrap_i64, IntKind.wrap_i64, IntKind.wrap_u8]; omega
    go_enter Tryd.func38, Tryd.ntmps38
    go_wp2_with fail
    go_region_held3 (fun w' => w'.cell? ⟨w.heap.size, 0, none⟩ = some (.int .u64 x0) ∧ w'.cell? ⟨w.heap.size, 1, none⟩ = some (.int .u64 x1) ∧ w'.cell? ⟨w.heap.size, 2, none⟩ = some (.int .u64 x2) ∧
        w'.cell? ⟨sb, 0, none⟩ = some (.int .i64 (-1)) ∧ OwnN 3 w' (w.heap.size + 1) ∧ w.heap.size ≤ w'.heap.size ∧ Below w.heap.size w w')
      (first
        | ((repeat' apply And.intro) <;> first | go_cell | (have h := (At.new (w.alloc (.cells #[.int .u64 x0, .int .u64 x1, .int .u64 x2] 59)) #[.int .u64 0, .int .u64 0, .int .u64 0] 59).drew.own; simpa using h) | (simp; omega) | (with_reducible exact (((Below.refl _ _).alloc (Nat.le_refl _) _).alloc (by simp) _).drew))
        | (go_split_ands
           (repeat' apply And.intro) <;> first | (refine cell_later hb ?_; with_reducible assumption) | (refine OwnN.below ?_ hb; with_reducible assumption) | (refine Nat.le_trans ?_ hb.size; with_reducible assumption) | (refine Below.trans ?_ (hb.mono ?_) <;> with_reducible assumption))
        | (go_split_ands
           (repeat' apply And.intro) <;> first | go_cell | (refine OwnN.set (OwnN.set (OwnN.set ?_ _ _) _ _) _ _; with_reducible assumption) | (simp; with_reducible assumption) | go_grown))
      (first
        | (go_at_call 39; refine (S.out _).mono ?_; rintro e w1 ⟨rfl, hb⟩)
        | (go_at_call 22; refine (O.out _).mono ?_; rintro e w1 ⟨rfl, hb⟩)
        | (go_at_call 30; refine (Y.out _).mono ?_; rintro e w1 ⟨rfl, hb⟩)
        | (go_at_call 29; refine (Z.out _).mono ?_; rintro e w1 ⟨rfl, hb⟩; go_split_ands; have hO : OwnN 3 w1 (w.heap.size + 1) := OwnN.below (by with_reducible assumption) hb; obtain ⟨v0, v1, v2, hA⟩ := hO.three; have r0 := hA.cell 0 _ rfl; have r1 := hA.cell 1 _ rfl; have r2 := hA.cell 2 _ rfl; have q0 := hA.free 0 _ rfl; have q1 := hA.free 1 _ rfl; have q2 := hA.free 2 _ rfl))
    all_goals
      rename_i hH
      have hB := hH.2.2.2.2.2.2
      clear hH
      go_wp2
      have s0 := same0 r0
      have s1 := same1 r1
      have s2 := same2 r2
      refine bodyPost_ret (v := .agg #[.int .u64 z0, .int .u64 z1, .int .u64 z2]) (by simp [results, Tryd.results38, go_sem, s0, s1, s2]) rfl ⟨rfl, by go_grown⟩

end Go.Proofs.YtmggiclikbacjaaDoor
