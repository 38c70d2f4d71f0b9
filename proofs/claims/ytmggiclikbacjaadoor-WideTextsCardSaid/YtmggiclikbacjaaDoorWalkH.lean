/- Div64 by 10^19. -/
import Derived.Test.YtmggiclikbacjaaDoorWalkA
import Derived.Test.YtmggiclikbacjaaDoorAt
import Derived.Test.YtmggiclikbacjaaDoorMath
import Derived.Lib.Hide
import Derived.LoopTactic
import Derived.WalkMore
namespace Go.Proofs.YtmggiclikbacjaaDoor
open Go Go.Proofs Go.RowKit
set_option maxRecDepth 100000

theorem below_drewN {B : Nat} {a w : World} (h : Below B a w) (n : Nat) : Below B a (w.drewN n) := h.trans ⟨rfl, rfl, rfl, Nat.le_refl _, fun _ _ => rfl⟩

theorem lz_any (w : World) : Calls Tryd.prog 67 #[.int .u64 10000000000000000000] w fun e w' => e = .returned (.int .i64 0) ∧ w = w' := by
  refine (Tryd.bits_LeadingZeros64 10000000000000000000 w (by omega) (by omega)).mono fun _ _ h => ⟨h.1.trans ?_, h.2.symm⟩
  rw [show (64 - (Lib.bitLen (Int.toNat 10000000000000000000) : Int)) = 0 from by decide +kernel]

theorem div64_small (lo : Int) (l : 0 ≤ lo ∧ lo < 18446744073709551616) (w : World) :
    Calls Tryd.prog 41 #[.int .u64 0, .int .u64 lo, .int .u64 10000000000000000000] w fun e w' => e = .returned (.tuple #[.int .u64 (lo / 10000000000000000000), .int .u64 (lo % 10000000000000000000)]) ∧ Below w.heap.size w w' := by
  go_enter Tryd.func41, Tryd.ntmps41
  go_wp2_with fail
  go_quiet (fail)
  go_wp2
  go_ret2
  exact ⟨rfl, below_drewN (Below.refl _ _) _⟩

theorem mask32 (a : Int) (h1 : 0 ≤ a) (h2 : a < 18446744073709551616) : bits BinOp.and IntKind.u64 a 4294967295 = a % 4294967296 := by
  obtain ⟨a, rfl⟩ := Int.eq_ofNat_of_zero_le h1
  have h := u64_and_nat a 4294967295 (by omega) (by omega)
  rw [show a &&& 4294967295 = a % 4294967296 from Nat.and_two_pow_sub_one_eq_mod a 32] at h
  exact h
theorem or_zero (a : Int) (h1 : 0 ≤ a) (h2 : a < 18446744073709551616) : bits BinOp.or IntKind.u64 a 0 = a := by
  obtain ⟨a, rfl⟩ := Int.eq_ofNat_of_zero_le h1
  have h := u64_or_nat a 0 (by omega) (by omega)
  simpa using h

set_option maxHeartbeats 4000000 in
theorem div64_great (hi lo : Int) (h1 : 1 ≤ hi) (h2 : hi < 10000000000000000000) (l1 : 0 ≤ lo) (l2 : lo < 18446744073709551616) (w : World) :
    Calls Tryd.prog 41 #[.int .u64 hi, .int .u64 lo, .int .u64 10000000000000000000] w fun e w' => e = .returned (.tuple #[.int .u64 ((hi * 18446744073709551616 + lo) / 10000000000000000000), .int .u64 ((hi * 18446744073709551616 + lo) % 10000000000000000000)]) ∧ Below w.heap.size w w' := by
  have e1 := mask32 10000000000000000000 (by omega) (by omega)
  have e2 := or_zero hi (by omega) (by omega)
  have e3 := mask32 lo l1 l2
  have e4 : lo / 18446744073709551616 = 0 := by omega
  simp only [show (10000000000000000000 : Int) % 4294967296 = 2313682944 from by decide] at e1
  go_enter Tryd.func41, Tryd.ntmps41
  go_wp2_with (go_at_call 67; refine (lz_any _).mono ?_; rintro e w1 ⟨rfl, rfl⟩)
  clear e1 e2 e3 e4
  generalize hu1 : lo / 4294967296 = u1 at *
  generalize hu0 : lo % 4294967296 = u0 at *
  generalize hq0 : hi / 2328306436 = Q0 at *
  generalize hr0 : hi - Q0 * 2328306436 = R0 at *
  have r1 : 0 ≤ u1 ∧ u1 < 4294967296 := by omega
  have r0 : 0 ≤ u0 ∧ u0 < 4294967296 := by omega
  have G0 := Lib.hid (show 0 ≤ Q0 ∧ Q0 ≤ 4294967296 ∧ 0 ≤ R0 ∧ R0 < 4294967296 ∧ Q0 * 2328306436 + R0 = hi ∧ hi * 4294967296 + u1 < (Q0 + 1) * 10000000000000000000 by omega)
  have HL := Lib.hid (And.intro hu1 hu0)
  clear hu1 hu0 hq0 hr0 l1 l2
  obtain ⟨u1a, u1b⟩ := r1
  obtain ⟨u0a, u0b⟩ := r0
  go_loop [15, 16] (fun q r => ∃ Q R : Int, q = .int .u64 Q ∧ r = .int .u64 R ∧ 0 ≤ Q ∧ Q ≤ 4294967296 ∧ 0 ≤ R ∧ R < 4294967296 ∧ Hid (Q * 2328306436 + R = hi ∧ hi * 4294967296 + u1 < (Q + 1) * 10000000000000000000)) (fun q _ => (intOf q).toNat)
  case atStart => exact ⟨Q0, R0, rfl, rfl, G0.out.1, G0.out.2.1, G0.out.2.2.1, G0.out.2.2.2.1, G0.out.2.2.2.2⟩
  case round =>
    obtain ⟨Q, R, rfl, rfl, a1, a2, a3, a4, H⟩ := hrel
    clear G0
    by_cases hA : Q < 4294967296 ∧ Q * 2313682944 ≤ 4294967296 * R + u1
    · obtain ⟨hA1, hA2⟩ := hA
      have HX : Hid (0 ≤ hi * 4294967296 + u1 - Q * 10000000000000000000 ∧ hi * 4294967296 + u1 - Q * 10000000000000000000 < 10000000000000000000) := by have := H.out; unfold Hid; omega
      obtain ⟨U, hU⟩ : ∃ U, U = hi * 4294967296 + u1 - Q * 10000000000000000000 := ⟨_, rfl⟩
      have Ua : 0 ≤ U := by have := HX.out; omega
      have Ub : U < 10000000000000000000 := by have := HX.out; omega
      have HU := Lib.hid hU
      have eU : IntKind.u64.wrap (IntKind.u64.wrap (IntKind.u64.wrap (hi * 4294967296) + u1) - IntKind.u64.wrap (Q * 10000000000000000000)) = U := by rw [IntKind.wrap_u64, IntKind.wrap_u64, IntKind.wrap_u64, IntKind.wrap_u64]; omega
      clear hU
      go_wp2
      clear eU
      generalize hq1 : U / 2328306436 = Q1 at *
      generalize hr1 : U - Q1 * 2328306436 = R1 at *
      have G1 := Lib.hid (show 0 ≤ Q1 ∧ Q1 ≤ 4294967296 ∧ 0 ≤ R1 ∧ R1 < 4294967296 ∧ Q1 * 2328306436 + R1 = U ∧ U * 4294967296 + u0 < (Q1 + 1) * 10000000000000000000 by omega)
      clear hq1 hr1
      go_loop [18, 16] (fun q r => ∃ Q R : Int, q = .int .u64 Q ∧ r = .int .u64 R ∧ 0 ≤ Q ∧ Q ≤ 4294967296 ∧ 0 ≤ R ∧ R < 4294967296 ∧ Hid (Q * 2328306436 + R = U ∧ U * 4294967296 + u0 < (Q + 1) * 10000000000000000000)) (fun q _ => (intOf q).toNat)
      case atStart => exact ⟨Q1, R1, rfl, rfl, G1.out.1, G1.out.2.1, G1.out.2.2.1, G1.out.2.2.2.1, G1.out.2.2.2.2⟩
      case round =>
        obtain ⟨S, T, rfl, rfl, b1, b2, b3, b4, K⟩ := hrel
        clear G1
        by_cases hB : S < 4294967296 ∧ S * 2313682944 ≤ 4294967296 * T + u0
        · obtain ⟨hB1, hB2⟩ := hB
          have eV : IntKind.u64.wrap (IntKind.u64.wrap (IntKind.u64.wrap (U * 4294967296) + u0) - IntKind.u64.wrap (S * 10000000000000000000)) = U * 4294967296 + u0 - S * 10000000000000000000 := by have := K.out; rw [IntKind.wrap_u64, IntKind.wrap_u64, IntKind.wrap_u64, IntKind.wrap_u64]; omega
          have HQ : Hid (Q * 4294967296 + S = (hi * 18446744073709551616 + lo) / 10000000000000000000 ∧ U * 4294967296 + u0 - S * 10000000000000000000 = (hi * 18446744073709551616 + lo) % 10000000000000000000) := by
            have := K.out; have := HU.out; have := HL.out; unfold Hid; omega
          have HEV := Lib.hid eV
          clear eV
          go_wp2
          go_ret2
          refine ⟨?_, Below.refl _ _⟩
          show Ending.returned (.tuple #[.int .u64 (Q * 4294967296 + S), .int .u64 (IntKind.u64.wrap (IntKind.u64.wrap (IntKind.u64.wrap (U * 4294967296) + u0) - IntKind.u64.wrap (S * 10000000000000000000)))]) = _
          rw [HEV.out, HQ.out.1, HQ.out.2]
        · have hpos2 : Hid (1 ≤ S) := by have := K.out; unfold Hid; omega
          by_cases hr2 : T + 2328306436 < 4294967296
          · have hstep2 : Hid ((S - 1) * 2328306436 + (T + 2328306436) = U ∧ U * 4294967296 + u0 < (S - 1 + 1) * 10000000000000000000) := by have := K.out; unfold Hid; omega
            by_cases hq2 : S < 4294967296
            all_goals
              go_wp2
              go_round
              case rel => exact ⟨S - 1, T + 2328306436, rfl, rfl, by have := hpos2.out; omega, by omega, by omega, by omega, hstep2⟩
              case measure => have := hpos2.out; simp [intOf]; omega
          · obtain ⟨S, rfl⟩ : ∃ S', S = S' + 1 := ⟨S - 1, by omega⟩
            have eV : IntKind.u64.wrap (IntKind.u64.wrap (IntKind.u64.wrap (U * 4294967296) + u0) - IntKind.u64.wrap (S * 10000000000000000000)) = U * 4294967296 + u0 - S * 10000000000000000000 := by have := K.out; rw [IntKind.wrap_u64, IntKind.wrap_u64, IntKind.wrap_u64, IntKind.wrap_u64]; omega
            have HQ : Hid (Q * 4294967296 + S = (hi * 18446744073709551616 + lo) / 10000000000000000000 ∧ U * 4294967296 + u0 - S * 10000000000000000000 = (hi * 18446744073709551616 + lo) % 10000000000000000000) := by
              have := K.out; have := HU.out; have := HL.out; unfold Hid; omega
            have hS0 : 0 ≤ S := by have := hpos2.out; omega
            have HEV := Lib.hid eV
            clear eV
            by_cases hq2 : S + 1 < 4294967296
            all_goals
              go_wp2
              go_ret2
              refine ⟨?_, Below.refl _ _⟩
              show Ending.returned (.tuple #[.int .u64 (Q * 4294967296 + S), .int .u64 (IntKind.u64.wrap (IntKind.u64.wrap (IntKind.u64.wrap (U * 4294967296) + u0) - IntKind.u64.wrap (S * 10000000000000000000)))]) = _
              rw [HEV.out, HQ.out.1, HQ.out.2]
    · have hpos : Hid (1 ≤ Q) := by have := H.out; unfold Hid; omega
      by_cases hr : R + 2328306436 < 4294967296
      · have hstep : Hid ((Q - 1) * 2328306436 + (R + 2328306436) = hi ∧ hi * 4294967296 + u1 < (Q - 1 + 1) * 10000000000000000000) := by have := H.out; unfold Hid; omega
        by_cases hq : Q < 4294967296
        all_goals
          go_wp2
          go_round
          case rel => exact ⟨Q - 1, R + 2328306436, rfl, rfl, by have := hpos.out; omega, by omega, by omega, by omega, hstep⟩
          case measure => have := hpos.out; simp [intOf]; omega
      · obtain ⟨Q, rfl⟩ : ∃ Q', Q = Q' + 1 := ⟨Q - 1, by omega⟩
        have HX : Hid (0 ≤ hi * 4294967296 + u1 - Q * 10000000000000000000 ∧ hi * 4294967296 + u1 - Q * 10000000000000000000 < 10000000000000000000) := by have := H.out; unfold Hid; omega
        have hQ0 : 0 ≤ Q := by have := hpos.out; omega
        by_cases hq : Q + 1 < 4294967296
        all_goals
          obtain ⟨U, hU⟩ : ∃ U, U = hi * 4294967296 + u1 - Q * 10000000000000000000 := ⟨_, rfl⟩
          have Ua : 0 ≤ U := by have := HX.out; omega
          have Ub : U < 10000000000000000000 := by have := HX.out; omega
          have HU := Lib.hid hU
          have eU : IntKind.u64.wrap (IntKind.u64.wrap (IntKind.u64.wrap (hi * 4294967296) + u1) - IntKind.u64.wrap (Q * 10000000000000000000)) = U := by rw [IntKind.wrap_u64, IntKind.wrap_u64, IntKind.wrap_u64, IntKind.wrap_u64]; omega
          clear hU
          go_wp2
          clear eU
          generalize hq1 : U / 2328306436 = Q1 at *
          generalize hr1 : U - Q1 * 2328306436 = R1 at *
          have G1 := Lib.hid (show 0 ≤ Q1 ∧ Q1 ≤ 4294967296 ∧ 0 ≤ R1 ∧ R1 < 4294967296 ∧ Q1 * 2328306436 + R1 = U ∧ U * 4294967296 + u0 < (Q1 + 1) * 10000000000000000000 by omega)
          clear hq1 hr1
          go_loop [18, 16] (fun q r => ∃ Q R : Int, q = .int .u64 Q ∧ r = .int .u64 R ∧ 0 ≤ Q ∧ Q ≤ 4294967296 ∧ 0 ≤ R ∧ R < 4294967296 ∧ Hid (Q * 2328306436 + R = U ∧ U * 4294967296 + u0 < (Q + 1) * 10000000000000000000)) (fun q _ => (intOf q).toNat)
          case atStart => exact ⟨Q1, R1, rfl, rfl, G1.out.1, G1.out.2.1, G1.out.2.2.1, G1.out.2.2.2.1, G1.out.2.2.2.2⟩
          case round =>
            obtain ⟨S, T, rfl, rfl, b1, b2, b3, b4, K⟩ := hrel
            clear G1
            by_cases hB : S < 4294967296 ∧ S * 2313682944 ≤ 4294967296 * T + u0
            · obtain ⟨hB1, hB2⟩ := hB
              have eV : IntKind.u64.wrap (IntKind.u64.wrap (IntKind.u64.wrap (U * 4294967296) + u0) - IntKind.u64.wrap (S * 10000000000000000000)) = U * 4294967296 + u0 - S * 10000000000000000000 := by have := K.out; rw [IntKind.wrap_u64, IntKind.wrap_u64, IntKind.wrap_u64, IntKind.wrap_u64]; omega
              have HQ : Hid (Q * 4294967296 + S = (hi * 18446744073709551616 + lo) / 10000000000000000000 ∧ U * 4294967296 + u0 - S * 10000000000000000000 = (hi * 18446744073709551616 + lo) % 10000000000000000000) := by
                have := K.out; have := HU.out; have := HL.out; unfold Hid; omega
              have HEV := Lib.hid eV
              clear eV
              go_wp2
              go_ret2
              refine ⟨?_, Below.refl _ _⟩
              show Ending.returned (.tuple #[.int .u64 (Q * 4294967296 + S), .int .u64 (IntKind.u64.wrap (IntKind.u64.wrap (IntKind.u64.wrap (U * 4294967296) + u0) - IntKind.u64.wrap (S * 10000000000000000000)))]) = _
              rw [HEV.out, HQ.out.1, HQ.out.2]
            · have hpos2 : Hid (1 ≤ S) := by have := K.out; unfold Hid; omega
              by_cases hr2 : T + 2328306436 < 4294967296
              · have hstep2 : Hid ((S - 1) * 2328306436 + (T + 2328306436) = U ∧ U * 4294967296 + u0 < (S - 1 + 1) * 10000000000000000000) := by have := K.out; unfold Hid; omega
                by_cases hq2 : S < 4294967296
                all_goals
                  go_wp2
                  go_round
                  case rel => exact ⟨S - 1, T + 2328306436, rfl, rfl, by have := hpos2.out; omega, by omega, by omega, by omega, hstep2⟩
                  case measure => have := hpos2.out; simp [intOf]; omega
              · obtain ⟨S, rfl⟩ : ∃ S', S = S' + 1 := ⟨S - 1, by omega⟩
                have eV : IntKind.u64.wrap (IntKind.u64.wrap (IntKind.u64.wrap (U * 4294967296) + u0) - IntKind.u64.wrap (S * 10000000000000000000)) = U * 4294967296 + u0 - S * 10000000000000000000 := by have := K.out; rw [IntKind.wrap_u64, IntKind.wrap_u64, IntKind.wrap_u64, IntKind.wrap_u64]; omega
                have HQ : Hid (Q * 4294967296 + S = (hi * 18446744073709551616 + lo) / 10000000000000000000 ∧ U * 4294967296 + u0 - S * 10000000000000000000 = (hi * 18446744073709551616 + lo) % 10000000000000000000) := by
                  have := K.out; have := HU.out; have := HL.out; unfold Hid; omega
                have hS0 : 0 ≤ S := by have := hpos2.out; omega
                have HEV := Lib.hid eV
                clear eV
                by_cases hq2 : S + 1 < 4294967296
                all_goals
                  go_wp2
                  go_ret2
                  refine ⟨?_, Below.refl _ _⟩
                  show Ending.returned (.tuple #[.int .u64 (Q * 4294967296 + S), .int .u64 (IntKind.u64.wrap (IntKind.u64.wrap (IntKind.u64.wrap (U * 4294967296) + u0) - IntKind.u64.wrap (S * 10000000000000000000)))]) = _
                  rw [HEV.out, HQ.out.1, HQ.out.2]
end Go.Proofs.YtmggiclikbacjaaDoor
