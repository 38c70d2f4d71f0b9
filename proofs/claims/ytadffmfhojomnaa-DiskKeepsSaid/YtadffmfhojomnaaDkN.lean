/- belfrylaw10.known: a disk, its twin, a cut: true. -/
import Derived.Test.YtadffmfhojomnaaDkK
namespace Go.Proofs.Ytadffmfhojomnaa
open Go Go.Proofs Go.RowKit Go.Shelf
set_option maxRecDepth 100000
def kA : Dk := ⟨[97, 98], 0, false, 0, 0, 1⟩
def kB : Dk := ⟨[97, 98], 2, false, 0, 0, 2⟩
def kC : Dk := ⟨[97, 98, 99, 100, 101], 2, false, 0, 0, 3⟩
def kD : Dk := ⟨[97, 98, 99], 3, true, 0, 0, 3⟩
def kE : Dk := ⟨[97, 98, 99], 3, false, 0, 0, 3⟩
def kF : Dk := ⟨[120], 1, false, 0, 0, 4⟩
theorem kA_is : (Dk.of []).append [97, 98] = (0, kA) := rfl
theorem kB_is : kA.sync = (0, kB) := rfl
theorem kC_is : kB.append [99, 100, 101] = (0, kC) := rfl
theorem kD_is : kC.cut 1 = kD := rfl
theorem kD_sync : kD.sync = (13, kD) := rfl
theorem kE_is : ({ kD with off := false } : Dk) = kE := rfl
theorem kF_is : kE.replace [120] = (0, kF) := rfl
theorem apart_new {base : Nat} {w : World} {b : Nat} {v : Value} {d : Dk} (h : DkAt base w b v d) {n c : Nat} {P : Prop} : P → ∀ g, (Value.slice (some ⟨w.heap.size, 0, none⟩) n c).ownBlock = some g → v.ownBlock ≠ some g := fun _ g e q => by
  obtain rfl : w.heap.size = g := by simpa [Value.ownBlock] using e
  have := (World.ownsRow.lt h.own _ q).2
  omega
theorem apart_new2 {base : Nat} {w : World} {b : Nat} {v : Value} {d : Dk} (h : DkAt base w b v d) {n c : Nat} {P : Prop} : P → ∀ g, (Value.slice (some ⟨w.heap.size, 0, none⟩) n c).ownBlock = some g → v.ownBlock ≠ some g ∧ g ≠ b := fun p g e => by
  refine ⟨apart_new h p g e, fun q => ?_⟩
  obtain rfl : w.heap.size = g := by simpa [Value.ownBlock] using e
  have := h.lt
  omega
set_option maxHeartbeats 4000000 in
theorem known_any (w : World) : Calls Try.prog 4 #[] w fun e w' => e = .returned (.bool true) ∧ Below w.heap.size w w' := by
  have H1 := Lib.hid (new_any w)
  have kc := fun (w : World) (C : Array Value) (n c : Nat) => Lib.run_convert_bytes_const (P := Try.prog) w 22 5 C n c Try.underlying22 Try.underlying5
  go_enter Try.func4, Try.ntmps4
  go_wp2_with fail
  refine H1.out.mono ?_
  rintro e w1 ⟨b, v1, rfl, D1, g1⟩
  have B1 := grownBy_below g1 (Nat.le_refl _) (fun k e => by cases e)
  have H2 : Calls Try.prog 6 #[.pointer (some ⟨b, 0, none⟩), (.slice (some ⟨w1.heap.size, 0, none⟩) 2 2)] (w1.alloc (.cells #[.int .u8 97, .int .u8 98] 5 (2, 3))) (OpPost w.heap.size b v1 (0, kA) (w1.alloc (.cells #[.int .u8 97, .int .u8 98] 5 (2, 3)))) := by
    have h := append_any w.heap.size b v1 (.slice (some ⟨w1.heap.size, 0, none⟩) 2 2) (Dk.of []) [97, 98] _ (D1.new (.cells #[.int .u8 97, .int .u8 98] 5 (2, 3))) (bys_new w1 [97, 98] _ 2 2 _ rfl rfl) (apart_new D1) (by decide) (by decide)
    rw [kA_is] at h
    exact h
  have h2 := Lib.hid H2
  have C1 := Lib.hid (D1.new (.cells #[.int .u8 97, .int .u8 98] 5 (2, 3)))
  have E1 := Lib.hid (B1.alloc B1.size (.cells #[.int .u8 97, .int .u8 98] 5 (2, 3)))
  clear H2 D1 B1 g1 H1
  go_wp2_with fail
  refine h2.out.mono ?_
  rintro e w2 ⟨rfl, v2, D2, T2⟩
  have B2 := E1.out.trans (C1.out.below T2)
  have h3 : Hid (Calls Try.prog 7 #[.pointer (some ⟨b, 0, none⟩)] w2 (OpPost w.heap.size b v2 (0, kB) w2)) := by
    have h := sync_any w.heap.size b v2 kA w2 D2 (by decide)
    rw [kB_is] at h
    exact h
  have C2 := Lib.hid D2
  have E2 := Lib.hid B2
  clear D2 T2 B2 C1 E1 h2
  go_wp2_with fail
  refine h3.out.mono ?_
  rintro e w3 ⟨rfl, v3, D3, T3⟩
  have B3 := E2.out.trans (C2.out.below T3)
  have H4 : Calls Try.prog 6 #[.pointer (some ⟨b, 0, none⟩), (.slice (some ⟨w3.heap.size, 0, none⟩) 3 3)] (w3.alloc (.cells #[.int .u8 99, .int .u8 100, .int .u8 101] 5 (3, 4))) (OpPost w.heap.size b v3 (0, kC) (w3.alloc (.cells #[.int .u8 99, .int .u8 100, .int .u8 101] 5 (3, 4)))) := by
    have h := append_any w.heap.size b v3 (.slice (some ⟨w3.heap.size, 0, none⟩) 3 3) kB [99, 100, 101] _ (D3.new (.cells #[.int .u8 99, .int .u8 100, .int .u8 101] 5 (3, 4))) (bys_new w3 [99, 100, 101] _ 3 3 _ rfl rfl) (apart_new D3) (by decide) (by decide)
    rw [kC_is] at h
    exact h
  have h4 := Lib.hid H4
  have C3 := Lib.hid (D3.new (.cells #[.int .u8 99, .int .u8 100, .int .u8 101] 5 (3, 4)))
  have E3 := Lib.hid (B3.alloc B3.size (.cells #[.int .u8 99, .int .u8 100, .int .u8 101] 5 (3, 4)))
  clear H4 D3 B3 T3 C2 E2 h3
  go_wp2_with fail
  refine h4.out.mono ?_
  rintro e w4 ⟨rfl, v4, D4, T4⟩
  have B4 := E3.out.trans (C3.out.below T4)
  have h5 := Lib.hid (tail_any w.heap.size b v4 kC w4 D4)
  have C4 := Lib.hid D4
  have E4 := Lib.hid B4
  clear D4 B4 T4 C3 E3 h4
  go_wp2_with fail
  refine h5.out.mono ?_
  rintro e w5 ⟨rfl, q5, rfl⟩
  have D5 := C4.out.drewN q5
  have B5 : Below w.heap.size w (w4.drewN q5) := E4.out.trans ⟨rfl, rfl, rfl, Nat.le_refl _, fun _ _ => rfl⟩
  generalize w4.drewN q5 = w5 at *
  have h6 := Lib.hid (twin_any w.heap.size b v4 kC w5 D5)
  have C5 := Lib.hid D5
  have E5 := Lib.hid B5
  clear D5 B5 C4 E4 h5
  go_wp2_with fail
  refine h6.out.mono ?_
  rintro e w6 ⟨bu, vu, rfl, U6, g6⟩
  have T6 := Two.made C5.out g6 U6
  have B6 := E5.out.trans (grownBy_below g6 E5.out.size (fun k e => by cases e))
  have h7 : Hid (Calls Try.prog 9 #[.pointer (some ⟨b, 0, none⟩), .int .i64 1] w6 fun e w' => e = .returned (.tuple #[]) ∧ ∃ v', DkAt w.heap.size w' b v' kD ∧ DTo w6 w' b v4 v' ∧ v'.ownBlock = v4.ownBlock) := cut_any w.heap.size b v4 kC 1 w6 T6.one
  have C6 := Lib.hid T6
  have E6 := Lib.hid B6
  clear T6 B6 U6 g6 C5 E5 h6
  go_wp2_with fail
  refine h7.out.mono ?_
  rintro e w7 ⟨rfl, v7, D7, T7, _⟩
  have K7 := C6.out.op T7 D7
  have B7 := E6.out.trans (C6.out.one.below T7)
  have h8 : Hid (Calls Try.prog 7 #[.pointer (some ⟨b, 0, none⟩)] w7 (OpPost w.heap.size b v7 (13, kD) w7)) := by
    have h := sync_any w.heap.size b v7 kD w7 D7 (by decide)
    rw [kD_sync] at h
    exact h
  have C7 := Lib.hid K7
  have E7 := Lib.hid B7
  clear K7 B7 D7 T7 C6 E6 h7
  go_wp2_with fail
  refine h8.out.mono ?_
  rintro e w8 ⟨rfl, v8, D8, T8⟩
  have K8 := C7.out.op T8 D8
  have B8 := E7.out.trans (C7.out.one.below T8)
  have h9 : Hid (Calls Try.prog 13 #[.pointer (some ⟨b, 0, none⟩)] w8 fun e w' => e = .returned (.bool true) ∧ w8 = w') := off_any w.heap.size b v8 kD w8 D8
  have C8 := Lib.hid K8
  have E8 := Lib.hid B8
  have h10 : Hid (Calls Try.prog 14 #[.pointer (some ⟨b, 0, none⟩)] w8 fun e w' => e = .returned (.tuple #[]) ∧ DkAt w.heap.size w' b v8 kE ∧ DTo w8 w' b v8 v8) := on_any w.heap.size b v8 kD w8 D8
  clear K8 B8 D8 T8 C7 E7 h8
  go_wp2_with fail
  refine h9.out.mono ?_
  rintro e w9 ⟨rfl, rfl⟩
  go_wp2_with fail
  refine h10.out.mono ?_
  rintro e w10 ⟨rfl, D10, T10⟩
  have K10 := C8.out.op T10 D10
  have B10 := E8.out.trans (C8.out.one.below T10)
  have h11 : Hid (Calls Try.prog 15 #[.pointer (some ⟨b, 0, none⟩), (.slice (some ⟨w10.heap.size, 0, none⟩) 1 1)] (w10.alloc (.cells #[.int .u8 120] 5 (1, 2))) (OpPost w.heap.size b v8 (0, kF) (w10.alloc (.cells #[.int .u8 120] 5 (1, 2))))) := by
    have h := replace_any w.heap.size b v8 (.slice (some ⟨w10.heap.size, 0, none⟩) 1 1) kE [120] _ (D10.new (.cells #[.int .u8 120] 5 (1, 2))) (bys_new w10 [120] _ 1 1 _ rfl rfl) (apart_new2 D10) (by decide) (by decide)
    rw [kF_is] at h
    exact h
  have C10 := Lib.hid (K10.new (.cells #[.int .u8 120] 5 (1, 2)))
  have E10 := Lib.hid (B10.alloc B10.size (.cells #[.int .u8 120] 5 (1, 2)))
  clear K10 B10 D10 T10 C8 E8 h9 h10
  go_wp2_with fail
  refine h11.out.mono ?_
  rintro e w11 ⟨rfl, v11, D11, T11⟩
  have K11 := C10.out.op T11 D11
  have B11 := E10.out.trans (C10.out.one.below T11)
  have h12 := Lib.hid (of_any (.slice (some ⟨w11.heap.size, 0, none⟩) 1 1) [113] (w11.alloc (.cells #[.int .u8 113] 5 (1, 2))) (bys_new w11 [113] _ 1 1 _ rfl rfl) (by decide))
  have C11 := Lib.hid (K11.new (.cells #[.int .u8 113] 5 (1, 2)))
  have E11 := Lib.hid (B11.alloc B11.size (.cells #[.int .u8 113] 5 (1, 2)))
  clear K11 B11 D11 T11 C10 E10 h11
  go_wp2_with fail
  refine h12.out.mono ?_
  rintro e w12 ⟨bo, vo, rfl, O12, g12⟩
  have K12 := C11.out.grow g12
  have B12 := E11.out.trans (grownBy_below g12 E11.out.size (fun k e => by cases e))
  have h13 : Hid (Calls Try.prog 10 #[.pointer (some ⟨b, 0, none⟩)] w12 (BehindPost w12.heap.size (.slice none 0 0) [120] w12)) := bytes_any w.heap.size b v11 kF w12 K12.one
  have C12 := Lib.hid K12
  have E12 := Lib.hid B12
  have O := Lib.hid O12
  clear K12 B12 O12 g12 C11 E11 h12
  go_wp2_with fail
  refine h13.out.mono ?_
  rintro e w13 ⟨v13, rfl, ⟨a13, c13, rfl⟩, own13, g13, _⟩
  have G13 := grow_nil g13
  have K13 := C12.out.grow G13
  have O13 := O.out.grow G13
  have B13 := E12.out.trans (grownBy_below G13 E12.out.size (fun k e => by cases e))
  have cv13 : (convert 22 9 (.slice a13 1 c13)).run Try.prog w13 = .ok (.string ⟨#[120]⟩) w13 := text_of_row own13
  have h14 : Hid (Calls Try.prog 17 #[.pointer (some ⟨b, 0, none⟩)] w13 fun e w' => e = .returned (.int .i64 1) ∧ w13 = w') := len_any _ b v11 kF w13 K13.one
  have h15 : Hid (Calls Try.prog 12 #[.pointer (some ⟨b, 0, none⟩)] w13 fun e w' => e = .returned (.int .i64 0) ∧ ∃ q, w' = w13.drewN q) := tail_any _ b v11 kF w13 K13.one
  have C13 := Lib.hid K13
  have E13 := Lib.hid B13
  have Q13 := Lib.hid O13
  clear K13 B13 O13 G13 g13 own13 C12 E12 O h13
  go_wp2_with fail
  refine h14.out.mono ?_
  rintro e w14 ⟨rfl, rfl⟩
  go_wp2_with fail
  refine h15.out.mono ?_
  rintro e w15 ⟨rfl, q15, rfl⟩
  have K15 := C13.out.drewN q15
  have O15 := Q13.out.drewN q15
  have B15 : Below w.heap.size w (w13.drewN q15) := E13.out.trans ⟨rfl, rfl, rfl, Nat.le_refl _, fun _ _ => rfl⟩
  generalize w13.drewN q15 = w15 at *
  have h16 : Hid (Calls Try.prog 10 #[.pointer (some ⟨bu, 0, none⟩)] w15 (BehindPost w15.heap.size (.slice none 0 0) [97, 98, 99, 100, 101] w15)) := bytes_any _ bu vu kC w15 K15.two
  have C15 := Lib.hid K15
  have E15 := Lib.hid B15
  have Q15 := Lib.hid O15
  clear K15 B15 O15 C13 E13 Q13 h14 h15 cv13
  go_wp2_with fail
  refine h16.out.mono ?_
  rintro e w16 ⟨v16, rfl, ⟨a16, c16, rfl⟩, own16, g16, _⟩
  have G16 := grow_nil g16
  have K16 := C15.out.grow G16
  have O16 := Q15.out.grow G16
  have B16 := E15.out.trans (grownBy_below G16 E15.out.size (fun k e => by cases e))
  have cv16 : (convert 22 9 (.slice a16 5 c16)).run Try.prog w16 = .ok (.string ⟨#[97, 98, 99, 100, 101]⟩) w16 := text_of_row own16
  have h17 : Hid (Calls Try.prog 18 #[.pointer (some ⟨b, 0, none⟩)] w16 fun e w' => e = .returned (.int .i64 4) ∧ w16 = w') := ops_any _ b v11 kF w16 K16.one
  have h18 : Hid (Calls Try.prog 10 #[.pointer (some ⟨bo, 0, none⟩)] w16 (BehindPost w16.heap.size (.slice none 0 0) [113] w16)) := bytes_any _ bo vo _ w16 O16
  have E16 := Lib.hid B16
  have Q16 := Lib.hid O16
  clear K16 B16 O16 G16 g16 own16 C15 E15 Q15 h16
  go_wp2_with fail
  refine h17.out.mono ?_
  rintro e w17 ⟨rfl, rfl⟩
  go_wp2_with fail
  refine h18.out.mono ?_
  rintro e w18 ⟨v18, rfl, ⟨a18, c18, rfl⟩, own18, g18, _⟩
  have G18 := grow_nil g18
  have O18 := Q16.out.grow G18
  have B18 := E16.out.trans (grownBy_below G18 E16.out.size (fun k e => by cases e))
  have cv18 : (convert 22 9 (.slice a18 1 c18)).run Try.prog w18 = .ok (.string ⟨#[113]⟩) w18 := text_of_row own18
  have h19 : Hid (Calls Try.prog 12 #[.pointer (some ⟨bo, 0, none⟩)] w18 fun e w' => e = .returned (.int .i64 0) ∧ ∃ q, w' = w18.drewN q) := tail_any _ bo vo _ w18 O18
  have E18 := Lib.hid B18
  clear B18 O18 G18 g18 own18 E16 Q16 h17 h18 cv16
  go_wp2_with fail
  refine h19.out.mono ?_
  rintro e w19 ⟨rfl, q19, rfl⟩
  have B19 : Below w.heap.size w (w18.drewN q19) := E18.out.trans ⟨rfl, rfl, rfl, Nat.le_refl _, fun _ _ => rfl⟩
  have E19 := Lib.hid B19
  clear B19 E18 h19 cv18
  go_wp2
  go_ret
  exact ⟨rfl, E19.out⟩
end Go.Proofs.Ytadffmfhojomnaa
