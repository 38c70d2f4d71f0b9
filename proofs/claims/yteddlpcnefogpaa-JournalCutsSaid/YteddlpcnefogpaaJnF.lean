/- journal.first: the record at the front of bytes, as new memory. -/
import Derived.Test.YteddlpcnefogpaaDkH
import Derived.Test.YteddlpcnefogpaaJnM
import Derived.Test.YteddlpcnefogpaaShelf
import Derived.Laws.BitsLemmas
namespace Go.Proofs.Yteddlpcnefogpaa
open Go Go.Proofs Go.RowKit Go.Shelf
set_option maxRecDepth 100000
theorem cell_set {w : World} {p : Addr} {v : Value} (h : (w.cell? p).isSome = true) : (w.setCell p v).cell? p = some v := by
  obtain ⟨u, hu⟩ := Option.isSome_iff_exists.1 h
  exact World.cell?_setCell_same _ _ _ hu
attribute [local go_sem] cell_set
/-- bytes of the call's own -/
abbrev Dat (B : Nat) (W : World) (dv : Value) (d : List UInt8) : Prop := W.ownsRow B 5 1 dv d.length (Lib.byteCells d) ∧ ∃ a c, dv = .slice a d.length c
theorem byCells (d : List UInt8) : (d.map fun x => (x.toNat : Int)).map (Value.int .u8) = Lib.byteCells d := by simp [Lib.byteCells]
theorem clone_any (b off cap : Nat) (zs : List UInt8) (w : World) (hbig : zs.length ≤ 140737488355328) (hc : ∀ j x, zs[j]? = some x → w.cell? ⟨b, off + j, none⟩ = some (byV x)) :
    Calls Try.prog 44 #[.slice (some ⟨b, off, none⟩) zs.length cap] w fun e w' => ∃ dv, e = .returned dv ∧ Dat w.heap.size w' dv zs ∧ Below w.heap.size w w' := by
  refine (Try.bytes_Clone_at ⟨b, off, none⟩ zs.length cap (zs.map fun x => (x.toNat : Int)) w (by simp) hbig (fun i hi => ?_)).mono ?_
  · rw [Addr.add_lit, hc i _ (List.getElem?_eq_getElem hi)]
    simp [List.getD, List.getElem?_eq_getElem hi]
  · rintro e w' ⟨v, rfl, h, _, hb⟩
    rw [byCells] at h
    refine ⟨v, rfl, ⟨h, ?_⟩, hb⟩
    rcases h.2 with ⟨rfl, h0⟩ | ⟨g, cap, cur, rfl, _⟩
    · rw [h0]; exact ⟨_, _, rfl⟩
    · exact ⟨_, _, rfl⟩
theorem or_bytes (x0 x1 : UInt8) : bits BinOp.or IntKind.i64 (x0.toNat : Int) ((x1.toNat : Int) * 256) = ((x0.toNat + x1.toNat * 256 : Nat) : Int) := by
  have h0 := x0.toNat_lt
  have h1 := x1.toNat_lt
  have h := (bits_nat .i64 63 (by decide) (fun n a b => by rw [IntKind.wrap_i64]; omega) x0.toNat (x1.toNat * 256) (by omega) (by omega)).2
  have e : x0.toNat ||| x1.toNat * 256 = x0.toNat + x1.toNat * 256 := by
    have := Nat.two_pow_add_eq_or_of_lt (i := 8) (b := x0.toNat) h0 x1.toNat
    rw [show (2 : Nat) ^ 8 = 256 from rfl] at this
    rw [Nat.or_comm, Nat.mul_comm x1.toNat 256, ← this]; omega
  rw [e] at h
  simpa using h
theorem below_drewN {B : Nat} {w w' : World} (h : Below B w w') (q : Nat) : Below B w (w'.drewN q) := h.trans ⟨rfl, rfl, rfl, Nat.le_refl _, fun _ _ => rfl⟩
theorem wr64 {n : Int} (h : -9223372036854775808 ≤ n) (k : n ≤ 9223372036854775807) : wrap64 n = n := by rw [wrap64]; omega
theorem w30 (N : Nat) : 0 ≤ 3 + (N : Int) := by omega
theorem w3 {N : Nat} (h : N ≤ 65535) : wrap64 (3 + (N : Int)) = 3 + (N : Int) := wr64 (by omega) (by omega)
theorem row_at (base base' : Nat) {w : World} {e : TypeId} {s n : Nat} {v : Value} {X : List Value} (h : w.ownsRow base e s v n X) (hb : base' ≤ base) : w.ownsRow base' e s v n X :=
  ⟨h.1, h.2.imp id (fun ⟨g, cap, cur, q1, q2, q3⟩ => ⟨g, cap, cur, q1, Nat.le_trans hb q2, q3⟩)⟩
theorem dat_mono {B B' : Nat} {w : World} {dv : Value} {d : List UInt8} (h : Dat B w dv d) (hb : B' ≤ B) : Dat B' w dv d := ⟨row_at B B' h.1 hb, h.2⟩
theorem dat_set {B b j : Nat} {w : World} {dv : Value} {d : List UInt8} (h : Dat B w dv d) (hb : b < B) (x : Value) : Dat B (w.setCell ⟨b, j, none⟩ x) dv d :=
  ⟨h.1.kept (grownBy_set w b j x) (by
    rcases q : dv.ownBlock with _ | g
    · exact .inl rfl
    · refine .inr (fun e => ?_)
      cases e
      have := (World.ownsRow.lt h.1 _ q).1
      omega), h.2⟩
/-- what first answers -/
def FirstPost (l : List UInt8) (w : World) (e : Ending) (w' : World) : Prop :=
  Below w.heap.size w w' ∧ match firstR l with
    | none => e = .returned (.tuple #[.agg #[.int .u8 0, .slice none 0 0], .bool false])
    | some r => ∃ dv, e = .returned (.tuple #[.agg #[byV r.1, dv], .bool true]) ∧ Dat w.heap.size w' dv r.2
set_option maxHeartbeats 4000000 in
theorem first_few (_ _ cap : Nat) (l : List UInt8) (a : Option Addr) (w : World) (h4 : l.length < 4) :
    Calls Try.prog 39 #[.slice a l.length cap] w (FirstPost l w) := by
  have HP : Hid (∀ w', Below w.heap.size w w' → FirstPost l w (.returned (.tuple #[.agg #[.int .u8 0, .slice none 0 0], .bool false])) w') := fun w' hb => by
    unfold FirstPost; rw [firstR_short h4]; exact ⟨hb, rfl⟩
  have h5 : (l.length : Int) < 4 := by omega
  go_enter Try.func39, Try.ntmps39
  go_wp2
  refine bodyPost_ret (by simp [results, Try.f39, go_sem]; try rfl) rfl ?_
  exact HP.out _ (below_cells _)
set_option maxHeartbeats 8000000 in
theorem first_any (b off cap : Nat) (l : List UInt8) (w : World) (hcap : l.length ≤ cap) (hbig : l.length ≤ 1099511627776) (hb : b < w.heap.size) (hc : ∀ j x, l[j]? = some x → w.cell? ⟨b, off + j, none⟩ = some (byV x)) :
    Calls Try.prog 39 #[.slice (some ⟨b, off, none⟩) l.length cap] w (FirstPost l w) := by
  by_cases h4 : l.length < 4
  · exact first_few b off cap l _ w h4
  obtain ⟨x0, x1, x2, t, rfl⟩ : ∃ x0 x1 x2 t, l = x0 :: x1 :: x2 :: t := by
    match l, h4 with
    | a :: b :: c :: t, _ => exact ⟨a, b, c, t, rfl⟩
    | [_, _], h => simp at h
    | [_], h => simp at h
    | [], h => simp at h
  have c0 := hc 0 x0 rfl
  have c1 := hc 1 x1 rfl
  have c2 := hc 2 x2 rfl
  rw [Nat.add_zero] at c0
  have hl : (x0 :: x1 :: x2 :: t).length = t.length + 3 := rfl
  obtain ⟨L, hL⟩ : ∃ L, L = (x0 :: x1 :: x2 :: t).length := ⟨_, rfl⟩
  rw [← hL] at hcap hbig h4 hl ⊢
  have HC := Lib.hid hc
  have HL := Lib.hid hl
  have z0 : (0 : Int) < (L : Int) := by omega
  have z1 : (1 : Int) < (L : Int) := by omega
  have z2 : (2 : Int) < (L : Int) := by omega
  have z3 : ¬ (L : Int) < 4 := by omega
  have b0 := x0.toNat_lt
  have b1 := x1.toNat_lt
  have e0 : wrap64 (x0.toNat : Int) = (x0.toNat : Int) := wr64 (by omega) (by omega)
  have e1 : wrap64 (x1.toNat : Int) = (x1.toNat : Int) := wr64 (by omega) (by omega)
  have e2 : wrap64 ((x1.toNat : Int) * 256) = (x1.toNat : Int) * 256 := wr64 (by omega) (by omega)
  have e3 := or_bytes x0 x1
  obtain ⟨N, hN⟩ : ∃ N, N = x0.toNat + x1.toNat * 256 := ⟨_, rfl⟩
  have hN1 : N ≤ 65535 := by omega
  have hF : firstR (x0 :: x1 :: x2 :: t) = if N < t.length ∧ x2 ≠ 0 ∧ t[N]? = some x2 then some (x2, t.take N) else none := by rw [hN, firstR]
  rw [← hN] at e3
  have z4 : wrap64 ((L : Int) - 4) = (L : Int) - 4 := wr64 (by omega) (by omega)
  have hx2 : ((x2.toNat : Int) == 0) = decide (x2 = 0) := by
    rw [Bool.eq_iff_iff]
    simp only [beq_iff_eq, decide_eq_true_eq, ← UInt8.toNat_inj]
    exact Int.natCast_eq_zero
  have HX := Lib.hid hx2
  have HF := Lib.hid hF
  clear hc hL hl hN b0 b1 hx2 hF
  by_cases hA : t.length ≤ N
  · have HP : Hid (∀ w', Below w.heap.size w w' → FirstPost (x0 :: x1 :: x2 :: t) w (.returned (.tuple #[.agg #[.int .u8 0, .slice none 0 0], .bool false])) w') := fun w' hb => by
      unfold FirstPost; rw [HF.out, if_neg (by omega)]; exact ⟨hb, rfl⟩
    have a1 : (L : Int) - 4 < (N : Int) := by have := HL.out; omega
    clear h4 hA
    go_enter Try.func39, Try.ntmps39
    go_wp2
    go_quiet (fail)
    go_wp2
    refine bodyPost_ret (by simp [results, Try.f39, go_sem]; try rfl) rfl ?_
    exact HP.out _ (((below_drewN (below_cells _) _).setCell (Nat.le_refl _) _).setCell (Nat.le_refl _) _)
  have a1 : ¬ (L : Int) - 4 < (N : Int) := by have := HL.out; omega
  --@A
  by_cases hB : x2 = 0
  · have HP : Hid (∀ w', Below w.heap.size w w' → FirstPost (x0 :: x1 :: x2 :: t) w (.returned (.tuple #[.agg #[.int .u8 0, .slice none 0 0], .bool false])) w') := fun w' hb => by
      unfold FirstPost; rw [HF.out, if_neg (fun h => h.2.1 hB)]; exact ⟨hb, rfl⟩
    have a2 : ((x2.toNat : Int) == 0) = true := by rw [HX.out]; simpa using hB
    clear h4 hA
    go_enter Try.func39, Try.ntmps39
    go_wp2
    go_quiet (fail)
    go_wp2
    refine bodyPost_ret (by simp [results, Try.f39, go_sem]; try rfl) rfl ?_
    exact HP.out _ (((below_drewN (below_cells _) _).setCell (Nat.le_refl _) _).setCell (Nat.le_refl _) _)
  have a2 : ((x2.toNat : Int) == 0) = false := by rw [HX.out]; simpa using hB
  --@B
  have hA' : N < t.length := by clear e0 e1 e2 e3 z4; omega
  have a4 : (3 + (N : Int)) < (L : Int) := by have := HL.out; clear e0 e1 e2 e3 z4; omega
  have hlen : (t.take N).length = N := by rw [List.length_take, Nat.min_eq_left (Nat.le_of_lt hA')]
  obtain ⟨y, hy⟩ : ∃ y, t[N]? = some y := ⟨_, List.getElem?_eq_getElem hA'⟩
  have c3 := HC.out (3 + N) y (by rw [Nat.add_comm 3 N]; simpa using hy)
  have HY := Lib.hid hy
  have HA := Lib.hid hA'
  have hN2 : N ≤ 140737488355328 := Nat.le_trans hN1 (by decide)
  clear hy hA'
  --@C
  by_cases hD : y = x2
  · subst hD
    have hdr : ∀ (j : Nat) (x : UInt8), (t.take N)[j]? = some x → w.cell? ⟨b, off + 3 + j, none⟩ = some (byV x) := fun j x hj => by
      have h1 : j < N := by
        have := (List.getElem?_eq_some_iff.1 hj).1
        rwa [hlen] at this
      rw [List.getElem?_take, if_pos h1] at hj
      have := HC.out (3 + j) x (by rw [Nat.add_comm 3 j]; simpa using hj)
      rwa [← Nat.add_assoc] at this
    have HP : Hid (∀ w' dv, Below w.heap.size w w' → Dat w.heap.size w' dv (t.take N) → FirstPost (x0 :: x1 :: y :: t) w (.returned (.tuple #[.agg #[byV y, dv], .bool true])) w') := fun w' dv hb hd => by
      unfold FirstPost; rw [HF.out, if_pos ⟨HA.out, hB, HY.out⟩]; exact ⟨hb, dv, rfl, hd⟩
    have HCl : Hid (∀ w', Below w.heap.size w w' → ∀ cp, Calls Try.prog 44 #[.slice (some ⟨b, off + 3, none⟩) N cp] w' fun e w'' => ∃ dv, e = .returned dv ∧ Dat w'.heap.size w'' dv (t.take N) ∧ Below w'.heap.size w' w'') := fun w' hw cp => by
      have := clone_any b (off + 3) cp (t.take N) w' (by rw [hlen]; exact hN2) (fun j x hj => (hw.cell (p := ⟨b, off + 3 + j, none⟩) hb).trans (hdr j x hj))
      rwa [hlen] at this
    generalize t.take N = d at HP HCl
    clear h4 hA hB hdr hlen
    --@D
    have hN3 : ∀ nq, At ((w.alloc (.cells #[.int .u8 0, .slice none 0 0] 42)).drewN nq) w.heap.size [.int .u8 0, .slice none 0 0] := fun nq => (At.new w #[.int .u8 0, .slice none 0 0] _).below ⟨rfl, rfl, rfl, Nat.le_refl _, fun _ _ => rfl⟩
    have HN3 := Lib.hid hN3
    clear hN3
    go_enter Try.func39, Try.ntmps39
    go_wp2
    go_quiet (fail)
    rename_i nq
    go_wp2_with fail
    refine (HCl.out _ (below_drewN (below_cells _) nq) _).mono ?_
    rintro e w2 ⟨dv, rfl, hd, hb2⟩
    obtain ⟨da, dc, rfl⟩ := hd.2
    have hA3 := (HN3.out nq).below hb2
    have hA2 := hA3.f2
    have hB2 : Below w.heap.size w w2 := (below_drewN (below_cells _) nq).trans (hb2.mono (by simp))
    have HD := Lib.hid hd
    have HB2 := Lib.hid hB2
    clear hd hB2 hb2 HN3 hA3
    go_wp2
    refine bodyPost_ret (by simp [results, Try.f39, go_sem, hA2]; try rfl) rfl ?_
    refine HP.out _ _ ((HB2.out.setCell (Nat.le_refl _) _).setCell (Nat.le_refl _) _) ?_
    exact dat_mono (dat_set (dat_set HD.out (by simp) _) (by simp) _) (by simp)
  · have hne : ((y.toNat : Int) == (x2.toNat : Int)) = false := by
      rw [Bool.eq_false_iff]
      intro h
      exact hD (UInt8.toNat_inj.1 (Int.ofNat_inj.1 (by simpa using h)))
    have hne2 : ¬ (y.toNat = x2.toNat) := fun h => hD (UInt8.toNat_inj.1 h)
    have hne3 : ((y.toNat : Int) != (x2.toNat : Int)) = true := by simp [bne, hne]
    have HP : Hid (∀ w', Below w.heap.size w w' → FirstPost (x0 :: x1 :: x2 :: t) w (.returned (.tuple #[.agg #[.int .u8 0, .slice none 0 0], .bool false])) w') := fun w' hb => by
      unfold FirstPost; rw [HF.out, if_neg (fun h => hD (by have := HY.out.symm.trans h.2.2; exact Option.some.inj this))]; exact ⟨hb, rfl⟩
    clear h4 hA hlen
    go_enter Try.func39, Try.ntmps39
    go_wp2
    go_quiet (fail)
    go_wp2
    refine bodyPost_ret (by simp [results, Try.f39, go_sem]; try rfl) rfl ?_
    exact HP.out _ (((below_drewN (below_cells _) _).setCell (Nat.le_refl _) _).setCell (Nat.le_refl _) _)
end Go.Proofs.Yteddlpcnefogpaa
