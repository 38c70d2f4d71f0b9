/- The reference: byte1. -/
import Derived.Test.YtcfdpbbpdnpnnaaDoorREsc
namespace Go.Proofs.YtcfdpbbpdnpnnaaDoor
open Go Go.Proofs Go.RowKit Go.Shelf
set_option maxRecDepth 100000
attribute [local go_sem] cell_set ndV
def B1P (b : Nat) (w : World) (s : ByteArray) (l : List UInt8) (dp k0 : Nat) (r : Rx.Res Nat) (e : Ending) (w' : World) : Prop :=
 ∃ (v : Nat) (z dz bad pos : Int) (k : Nat), e = .returned (.tuple #[.int .u8 (v : Int), .int .i64 (k0 : Int)]) ∧ Pa b s l z dz bad pos k dp w' ∧ Kq b w w' ∧ match r with
  | .ok c j => v = c ∧ k = j ∧ bad = 0 ∧ pos = 0
  | .bad er j => bad = (er : Int) ∧ pos = (j : Int) ∧ er ≠ 0
set_option maxHeartbeats 2000000 in
theorem byte1_e (b : Nat) (s : ByteArray) (l : List UInt8) (dz : Int) (k dp : Nat) (w : World) (R : Pa b s l (k : Int) dz 0 0 k dp w) (hend : l.length ≤ k) :
  Calls Tryd.prog 57 #[.pointer (some ⟨b, 0, none⟩)] w (B1P b w s l dp k (.bad 2 k)) := by
 have hsz : s.size = l.length := by rw [Lib.size_eq, R.txt]
 have hl := R.ll
 have P := Kq.refl b w
 have h2 : (s.size : Int) ≤ (k : Int) := by omega
 have fR := R.f
 go_enter Tryd.func57, Tryd.ntmps57
 go_wp2_with fail
 clear fR
 have ltR := R.cells.lt
 refine (pfail_any b s l _ _ _ _ _ _ _ _ R).mono ?_
 rintro e w1 ⟨rfl, R2, P2⟩
 have P := P.trans P2
 have P3 := P2
 have R := R2
 clear R2 P2
 clear ltR
 have fR := R.f
 go_wp2
 go_ret2
 exact ⟨0, _, _, _, _, _, rfl, R, P, rfl, by have := R.kl; omega, by decide⟩
set_option maxHeartbeats 2000000 in
theorem byte1_b (b : Nat) (s : ByteArray) (l : List UInt8) (dz : Int) (k dp : Nat) (w : World) (R : Pa b s l (k : Int) dz 0 0 k dp w) (hk : k < l.length) (x : Nat) (hxx : Rx.pk l k = x) (hr : (x < 32) ∨ 126 < x ∨ x = 93 ∨ x = 45 ∨ x = 94) :
  Calls Tryd.prog 57 #[.pointer (some ⟨b, 0, none⟩)] w (B1P b w s l dp k (.bad 2 k)) := by
 have hsz : s.size = l.length := by rw [Lib.size_eq, R.txt]
 have hl := R.ll
 have P := Kq.refl b w
 have h1 : (k : Int) < (s.size : Int) := by omega
 have h2 : ¬ ((s.size : Int) ≤ (k : Int)) := by omega
 have h3 : (0 : Int) ≤ (k : Int) := by omega
 have hi : k < s.size := by omega
 have hx0 := pk_byteAt R.txt k hi
 have hx : (s[k]'hi).toNat = x := by rw [hx0]; exact hxx
 clear hx0
 have d9 : ((x : Int) == 92) = false := by rw [beq_eq_false_iff_ne]; omega
 clear hxx
 rcases hr with hr | hr | hr | hr | hr
 ·
  have d0 : decide ((x : Int) < 32) = true := decide_eq_true (by omega)
  have d1 : decide (126 < (x : Int)) = false := decide_eq_false (by omega)
  have d2 : ((x : Int) == 93) = false := by rw [beq_eq_false_iff_ne]; omega
  have d3 : ((x : Int) == 45) = false := by rw [beq_eq_false_iff_ne]; omega
  have d4 : ((x : Int) == 94) = false := by rw [beq_eq_false_iff_ne]; omega
  clear hr
  have fR := R.f
  go_enter Tryd.func57, Tryd.ntmps57
  go_wp2_with fail
  clear fR
  have ltR := R.cells.lt
  refine (pfail_any b s l _ _ _ _ _ _ _ _ R).mono ?_
  rintro e w1 ⟨rfl, R2, P2⟩
  have P := P.trans P2
  have P3 := P2
  have R := R2
  clear R2 P2
  clear ltR
  have fR := R.f
  go_wp2
  go_ret2
  exact ⟨0, _, _, _, _, _, rfl, R, P, rfl, rfl, by decide⟩
 ·
  have d0 : decide ((x : Int) < 32) = false := decide_eq_false (by omega)
  have d1 : decide (126 < (x : Int)) = true := decide_eq_true (by omega)
  have d2 : ((x : Int) == 93) = false := by rw [beq_eq_false_iff_ne]; omega
  have d3 : ((x : Int) == 45) = false := by rw [beq_eq_false_iff_ne]; omega
  have d4 : ((x : Int) == 94) = false := by rw [beq_eq_false_iff_ne]; omega
  clear hr
  have fR := R.f
  go_enter Tryd.func57, Tryd.ntmps57
  go_wp2_with fail
  clear fR
  have ltR := R.cells.lt
  refine (pfail_any b s l _ _ _ _ _ _ _ _ R).mono ?_
  rintro e w1 ⟨rfl, R2, P2⟩
  have P := P.trans P2
  have P3 := P2
  have R := R2
  clear R2 P2
  clear ltR
  have fR := R.f
  go_wp2
  go_ret2
  exact ⟨0, _, _, _, _, _, rfl, R, P, rfl, rfl, by decide⟩
 ·
  have d0 : decide ((x : Int) < 32) = false := decide_eq_false (by omega)
  have d1 : decide (126 < (x : Int)) = false := decide_eq_false (by omega)
  have d2 : ((x : Int) == 93) = true := by rw [beq_iff_eq]; omega
  have d3 : ((x : Int) == 45) = false := by rw [beq_eq_false_iff_ne]; omega
  have d4 : ((x : Int) == 94) = false := by rw [beq_eq_false_iff_ne]; omega
  clear hr
  have fR := R.f
  go_enter Tryd.func57, Tryd.ntmps57
  go_wp2_with fail
  clear fR
  have ltR := R.cells.lt
  refine (pfail_any b s l _ _ _ _ _ _ _ _ R).mono ?_
  rintro e w1 ⟨rfl, R2, P2⟩
  have P := P.trans P2
  have P3 := P2
  have R := R2
  clear R2 P2
  clear ltR
  have fR := R.f
  go_wp2
  go_ret2
  exact ⟨0, _, _, _, _, _, rfl, R, P, rfl, rfl, by decide⟩
 ·
  have d0 : decide ((x : Int) < 32) = false := decide_eq_false (by omega)
  have d1 : decide (126 < (x : Int)) = false := decide_eq_false (by omega)
  have d2 : ((x : Int) == 93) = false := by rw [beq_eq_false_iff_ne]; omega
  have d3 : ((x : Int) == 45) = true := by rw [beq_iff_eq]; omega
  have d4 : ((x : Int) == 94) = false := by rw [beq_eq_false_iff_ne]; omega
  clear hr
  have fR := R.f
  go_enter Tryd.func57, Tryd.ntmps57
  go_wp2_with fail
  clear fR
  have ltR := R.cells.lt
  refine (pfail_any b s l _ _ _ _ _ _ _ _ R).mono ?_
  rintro e w1 ⟨rfl, R2, P2⟩
  have P := P.trans P2
  have P3 := P2
  have R := R2
  clear R2 P2
  clear ltR
  have fR := R.f
  go_wp2
  go_ret2
  exact ⟨0, _, _, _, _, _, rfl, R, P, rfl, rfl, by decide⟩
 ·
  have d0 : decide ((x : Int) < 32) = false := decide_eq_false (by omega)
  have d1 : decide (126 < (x : Int)) = false := decide_eq_false (by omega)
  have d2 : ((x : Int) == 93) = false := by rw [beq_eq_false_iff_ne]; omega
  have d3 : ((x : Int) == 45) = false := by rw [beq_eq_false_iff_ne]; omega
  have d4 : ((x : Int) == 94) = true := by rw [beq_iff_eq]; omega
  clear hr
  have fR := R.f
  go_enter Tryd.func57, Tryd.ntmps57
  go_wp2_with fail
  clear fR
  have ltR := R.cells.lt
  refine (pfail_any b s l _ _ _ _ _ _ _ _ R).mono ?_
  rintro e w1 ⟨rfl, R2, P2⟩
  have P := P.trans P2
  have P3 := P2
  have R := R2
  clear R2 P2
  clear ltR
  have fR := R.f
  go_wp2
  go_ret2
  exact ⟨0, _, _, _, _, _, rfl, R, P, rfl, rfl, by decide⟩
set_option maxHeartbeats 2000000 in
theorem byte1_g (b : Nat) (s : ByteArray) (l : List UInt8) (dz : Int) (k dp : Nat) (w : World) (R : Pa b s l (k : Int) dz 0 0 k dp w) (hk : k < l.length) (x : Nat) (hxx : Rx.pk l k = x) (h9 : x ≠ 92) (hr : ¬ ((x < 32) ∨ 126 < x ∨ x = 93 ∨ x = 45 ∨ x = 94)) :
  Calls Tryd.prog 57 #[.pointer (some ⟨b, 0, none⟩)] w (B1P b w s l dp k (.ok x (k + 1))) := by
 have hsz : s.size = l.length := by rw [Lib.size_eq, R.txt]
 have hl := R.ll
 have P := Kq.refl b w
 have h1 : (k : Int) < (s.size : Int) := by omega
 have h2 : ¬ ((s.size : Int) ≤ (k : Int)) := by omega
 have h3 : (0 : Int) ≤ (k : Int) := by omega
 have hi : k < s.size := by omega
 have hx0 := pk_byteAt R.txt k hi
 have hx : (s[k]'hi).toNat = x := by rw [hx0]; exact hxx
 clear hx0
 have d9 : ((x : Int) == 92) = false := by rw [beq_eq_false_iff_ne]; omega
 clear hxx
 have d0 : decide ((x : Int) < 32) = false := decide_eq_false (by omega)
 have d1 : decide (126 < (x : Int)) = false := decide_eq_false (by omega)
 have d2 : ((x : Int) == 93) = false := by rw [beq_eq_false_iff_ne]; omega
 have d3 : ((x : Int) == 45) = false := by rw [beq_eq_false_iff_ne]; omega
 have d4 : ((x : Int) == 94) = false := by rw [beq_eq_false_iff_ne]; omega
 clear hr
 have fR := R.f
 go_enter Tryd.func57, Tryd.ntmps57
 go_wp2_with fail
 clear fR
 have R := (R.move (z' := (k : Int) + 1) (k' := k + 1) (by omega) (by omega))
 have P := (P.setCell (p := ⟨b, 1, none⟩) (.inr rfl) (.int .i64 ((k : Int) + 1)))
 go_ret2
 exact ⟨x, _, _, _, _, _, rfl, R, P, rfl, rfl, rfl, rfl⟩
set_option maxHeartbeats 2000000 in
theorem byte1_s (b : Nat) (s : ByteArray) (l : List UInt8) (dz : Int) (k dp : Nat) (w : World) (R : Pa b s l (k : Int) dz 0 0 k dp w) (hk : k < l.length) (hxx : Rx.pk l k = 92) :
  Calls Tryd.prog 57 #[.pointer (some ⟨b, 0, none⟩)] w (B1P b w s l dp k (escR l k)) := by
 have hsz : s.size = l.length := by rw [Lib.size_eq, R.txt]
 have hl := R.ll
 have P := Kq.refl b w
 have h1 : (k : Int) < (s.size : Int) := by omega
 have h2 : ¬ ((s.size : Int) ≤ (k : Int)) := by omega
 have h3 : (0 : Int) ≤ (k : Int) := by omega
 have hi : k < s.size := by omega
 have hx0 := pk_byteAt R.txt k hi
 have hx : (s[k]'hi).toNat = 92 := by rw [hx0]; exact hxx
 clear hx0 hxx
 have HC := fun (W : World) (R : Pa b s l (k : Int) dz 0 0 k dp W) => escaped_any b s l dz k dp W R hk
 cases he : escR l k with
 | bad er j =>
  rw [he] at HC
  have HC := Lib.hid HC
  clear he
  have fR := R.f
  go_enter Tryd.func57, Tryd.ntmps57
  go_wp2_with fail
  clear fR
  have ltR := R.cells.lt
  refine (HC.out _ R).mono ?_
  rintro e w1 ⟨xn, z1, dz1, bad, pos, k1, rfl, R2, P2, hst⟩
  have P := P.trans P2
  have P3 := P2
  have R := R2
  clear R2 P2
  clear ltR
  have fR := R.f
  obtain ⟨xo, xb, sa, sl, sc, ka, kl, kc⟩ := xn
  obtain ⟨rfl, rfl, hne⟩ := hst
  have hne2 : ((er : Int) != 0) = true := by rw [bne_iff_ne]; omega
  go_wp2
  go_ret2
  exact ⟨0, _, _, _, _, _, rfl, R.alloc _, P.alloc _, rfl, rfl, hne⟩
 | ok c j =>
  rw [he] at HC
  have HC := Lib.hid HC
  clear he
  have fR := R.f
  go_enter Tryd.func57, Tryd.ntmps57
  go_wp2_with fail
  clear fR
  have ltR := R.cells.lt
  refine (HC.out _ R).mono ?_
  rintro e w1 ⟨xn, z1, dz1, bad, pos, k1, rfl, R2, P2, hst⟩
  have P := P.trans P2
  have P3 := P2
  have R := R2
  clear R2 P2
  clear ltR
  have fR := R.f
  obtain ⟨xo, xb, sa, sl, sc, ka, kl, kc⟩ := xn
  obtain ⟨rfl, rfl, rfl, rfl, rfl, rfl, rfl, hset⟩ := hst
  obtain ⟨-, -, g, rfl, hg, hc⟩ := hset
  have c0 := (hc 0 _ rfl).1
  have hgl := hg.2
  rw [Nat.zero_mul] at c0
  clear hc hg
  dsimp only at c0
  go_wp2
  go_ret2
  exact ⟨c, _, _, _, _, _, rfl, R.alloc _, P.alloc _, rfl, rfl, rfl, rfl⟩
theorem esc_single {sp l : List UInt8} {k : Nat} (h : Rx.pk l k = 92) : Rx.singleF sp l k = escR l k := by unfold Rx.singleF escR; rw [if_pos h]
set_option maxRecDepth 100000 in
theorem in_set (x : Nat) (hx : x < 256) : Rx.inS Rx.inL x = true ↔ x = 93 ∨ x = 45 ∨ x = 94 := by
 have key : ∀ y : Fin 256, (Rx.inS Rx.inL y.val = true ↔ y.val = 93 ∨ y.val = 45 ∨ y.val = 94) := by decide +kernel
 exact key ⟨x, hx⟩
theorem byte1_any (b : Nat) (s : ByteArray) (l : List UInt8) (z dz : Int) (k dp : Nat) (w : World) (R : Pa b s l z dz 0 0 k dp w) :
  Calls Tryd.prog 57 #[.pointer (some ⟨b, 0, none⟩)] w (B1P b w s l dp k (Rx.singleF Rx.inL l k)) := by
 obtain rfl := R.hk
 by_cases hk : k < l.length
 ·
  by_cases h9 : Rx.pk l k = 92
  ·
   rw [esc_single h9]; exact byte1_s b s l dz k dp w R hk h9
  ·
   have hb := in_set _ (Rx.pk_byte l k)
   unfold Rx.singleF
   rw [if_neg h9]
   by_cases hr : Rx.pk l k < 32 ∨ 126 < Rx.pk l k ∨ Rx.inS Rx.inL (Rx.pk l k) = true
   ·
    rw [if_pos hr]; exact byte1_b b s l dz k dp w R hk _ rfl (by rw [hb] at hr; exact hr)
   ·
    rw [if_neg hr]; exact byte1_g b s l dz k dp w R hk _ rfl h9 (by rw [hb] at hr; exact hr)
 ·
  have hz := Rx.pk_end (l := l) (k := k) (by omega)
  unfold Rx.singleF
  rw [if_neg (by omega), if_pos (by omega)]
  exact byte1_e b s l dz k dp w R (by omega)
end Go.Proofs.YtcfdpbbpdnpnnaaDoor
