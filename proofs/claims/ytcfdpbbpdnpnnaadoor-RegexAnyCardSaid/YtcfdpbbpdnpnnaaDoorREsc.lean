/- The reference: escaped, byte1. -/
import Derived.Test.YtcfdpbbpdnpnnaaDoorRPat
namespace Go.Proofs.YtcfdpbbpdnpnnaaDoor
open Go Go.Proofs Go.RowKit Go.Shelf
set_option maxRecDepth 100000
attribute [local go_sem] cell_set ndV
/-- the byte of a text at a place, as a number -/
theorem pk_byteAt {s : ByteArray} {l : List UInt8} (hud : s.data.toList = l) (k : Nat) (h : k < s.size) : (s[k]'h).toNat = Rx.pk l k := by
 have hcl := Lib.data_getElem? s k h
 rw [hud] at hcl
 unfold Rx.pk; rw [hcl]; rfl
/-- a byte behind a stroke: what is answered -/
def EscP (b : Nat) (w : World) (s : ByteArray) (l : List UInt8) (dp : Nat) (r : Rx.Res Nat) (e : Ending) (w' : World) : Prop :=
 ∃ (x : Nd) (z dz bad pos : Int) (k : Nat), e = .returned (ndV x) ∧ Pa b s l z dz bad pos k dp w' ∧ Kq b w w' ∧ match r with
  | .ok c j => k = j ∧ bad = 0 ∧ pos = 0 ∧ x.o = 99 ∧ x.n = false ∧ x.sl = 1 ∧ x.ka = none ∧ SetIs (Rng w w') w' x.sa 1 [(c, c)]
  | .bad er j => bad = (er : Int) ∧ pos = (j : Int) ∧ er ≠ 0
def escR (l : List UInt8) (k : Nat) : Rx.Res Nat := if Rx.pk l (k + 1) < 32 ∨ 126 < Rx.pk l (k + 1) then .bad 2 (k + 1) else .ok (Rx.pk l (k + 1)) (k + 2)
set_option maxHeartbeats 2000000 in
theorem escaped_e (b : Nat) (s : ByteArray) (l : List UInt8) (dz : Int) (k dp : Nat) (w : World) (R : Pa b s l (k : Int) dz 0 0 k dp w) (hk : k < l.length) (hend : l.length ≤ k + 1) :
  Calls Tryd.prog 50 #[.pointer (some ⟨b, 0, none⟩)] w (EscP b w s l dp (.bad 2 (k + 1))) := by
 have hsz : s.size = l.length := by rw [Lib.size_eq, R.txt]
 have hl := R.ll
 have P := Kq.refl b w
 have h2 : (s.size : Int) ≤ (k : Int) + 1 := by omega
 have fR := R.f
 go_enter Tryd.func50, Tryd.ntmps50
 go_wp2_with fail
 clear fR
 have uR0 := R.cells.lt
 have Dr : At ((w).alloc (.cells #[.int .u8 0, .bool false, .slice none 0 0, .slice none 0 0] 30)) (w.heap.size) [.int .u8 0, .bool false, .slice none 0 0, .slice none 0 0] := by have h := (At.new (w) #[.int .u8 0, .bool false, .slice none 0 0, .slice none 0 0] 30); simpa using h
 have R := (R.alloc (.cells #[.int .u8 0, .bool false, .slice none 0 0, .slice none 0 0] 30))
 have P := (P.alloc (.cells #[.int .u8 0, .bool false, .slice none 0 0, .slice none 0 0] 30))
 generalize (w).alloc (.cells #[.int .u8 0, .bool false, .slice none 0 0, .slice none 0 0] 30) = v0 at *
 have fr := Dr.f4
 have fR := R.f
 go_quiet (fail)
 clear fr fR
 have Dr := (Dr.drewN nq)
 have R := (R.drewN nq)
 have P := (P.drewN nq)
 generalize (v0).drewN nq = v1 at *
 have fr := Dr.f4
 have fR := R.f
 go_wp2_with fail
 clear fr fR
 have ltr := Dr.lt
 have ltR := R.cells.lt
 refine (pfail_any b s l _ _ _ _ _ _ _ _ R).mono ?_
 rintro e w1 ⟨rfl, R2, P2⟩
 have Dr := Dr.kq P2 (by omega)
 have P := P.trans P2
 have P3 := P2
 have R := R2
 clear R2 P2
 clear ltR ltr
 have fr := Dr.f4
 have fR := R.f
 go_wp2
 clear fr fR
 have Dr := (Dr.puts4 (.int .u8 0) (.bool false) (.slice none 0 0) (.slice none 0 0))
 have R := (R.fars4 (w.heap.size) (by omega) (.int .u8 0) (.bool false) (.slice none 0 0) (.slice none 0 0))
 have P := (P.sets4 (w.heap.size) (by omega) (.int .u8 0) (.bool false) (.slice none 0 0) (.slice none 0 0))
 generalize ((((w1).setCell ⟨w.heap.size, 0, none⟩ (.int .u8 0)).setCell ⟨w.heap.size, 1, none⟩ (.bool false)).setCell ⟨w.heap.size, 2, none⟩ (.slice none 0 0)).setCell ⟨w.heap.size, 3, none⟩ (.slice none 0 0) = v9 at *
 have fr := Dr.f4
 have fR := R.f
 refine bodyPost_ret (v := ndV nd0) (by simp [results, Tryd.results50, go_sem, fr, nd0]; try rfl) rfl ?_
 exact ⟨nd0, _, _, _, _, _, rfl, R, P, rfl, by omega, by decide⟩
set_option maxHeartbeats 2000000 in
theorem escaped_b (b : Nat) (s : ByteArray) (l : List UInt8) (dz : Int) (k dp : Nat) (w : World) (R : Pa b s l (k : Int) dz 0 0 k dp w) (hk : k < l.length) (hend : k + 1 < l.length) (x : Nat) (hxx : Rx.pk l (k + 1) = x) (hr : x < 32 ∨ 126 < x) :
  Calls Tryd.prog 50 #[.pointer (some ⟨b, 0, none⟩)] w (EscP b w s l dp (.bad 2 (k + 1))) := by
 have hsz : s.size = l.length := by rw [Lib.size_eq, R.txt]
 have hl := R.ll
 have P := Kq.refl b w
 have h1 : (k : Int) + 1 < (s.size : Int) := by omega
 have h2 : ¬ ((s.size : Int) ≤ (k : Int) + 1) := by omega
 have h3 : (0 : Int) ≤ (k : Int) + 1 := by omega
 have hi : k + 1 < s.size := by omega
 have e1 : ((k : Int) + 1).toNat = k + 1 := by omega
 have hx0 := pk_byteAt R.txt (k + 1) hi
 have hx : (s[k + 1]'hi).toNat = x := by rw [hx0]; exact hxx
 clear hx0 hxx
 have q : (decide ((x : Int) < 32) || decide (126 < (x : Int))) = true := by simp; omega
 have fR := R.f
 go_enter Tryd.func50, Tryd.ntmps50
 go_wp2_with fail
 clear fR
 have uR0 := R.cells.lt
 have Dr : At ((w).alloc (.cells #[.int .u8 0, .bool false, .slice none 0 0, .slice none 0 0] 30)) (w.heap.size) [.int .u8 0, .bool false, .slice none 0 0, .slice none 0 0] := by have h := (At.new (w) #[.int .u8 0, .bool false, .slice none 0 0, .slice none 0 0] 30); simpa using h
 have R := (R.alloc (.cells #[.int .u8 0, .bool false, .slice none 0 0, .slice none 0 0] 30))
 have P := (P.alloc (.cells #[.int .u8 0, .bool false, .slice none 0 0, .slice none 0 0] 30))
 generalize (w).alloc (.cells #[.int .u8 0, .bool false, .slice none 0 0, .slice none 0 0] 30) = v0 at *
 have fr := Dr.f4
 have fR := R.f
 go_quiet (fail)
 clear fr fR
 have Dr := (Dr.drewN nq)
 have R := (R.drewN nq)
 have P := (P.drewN nq)
 generalize (v0).drewN nq = v1 at *
 have fr := Dr.f4
 have fR := R.f
 go_wp2_with fail
 go_quiet (fail)
 clear fr fR
 have Dr := (Dr.drewN nq)
 have R := (R.drewN nq)
 have P := (P.drewN nq)
 generalize (v1).drewN nq = v2 at *
 have fr := Dr.f4
 have fR := R.f
 go_wp2_with fail
 all_goals
  clear fr fR
  have ltr := Dr.lt
  have ltR := R.cells.lt
  refine (pfail_any b s l _ _ _ _ _ _ _ _ R).mono ?_
  rintro e w1 ⟨rfl, R2, P2⟩
  have Dr := Dr.kq P2 (by omega)
  have P := P.trans P2
  have P3 := P2
  have R := R2
  clear R2 P2
  clear ltR ltr
  have fr := Dr.f4
  have fR := R.f
  go_wp2
  clear fr fR
  have Dr := (Dr.puts4 (.int .u8 0) (.bool false) (.slice none 0 0) (.slice none 0 0))
  have R := (R.fars4 (w.heap.size) (by omega) (.int .u8 0) (.bool false) (.slice none 0 0) (.slice none 0 0))
  have P := (P.sets4 (w.heap.size) (by omega) (.int .u8 0) (.bool false) (.slice none 0 0) (.slice none 0 0))
  generalize ((((w1).setCell ⟨w.heap.size, 0, none⟩ (.int .u8 0)).setCell ⟨w.heap.size, 1, none⟩ (.bool false)).setCell ⟨w.heap.size, 2, none⟩ (.slice none 0 0)).setCell ⟨w.heap.size, 3, none⟩ (.slice none 0 0) = v9 at *
  have fr := Dr.f4
  have fR := R.f
  refine bodyPost_ret (v := ndV nd0) (by simp [results, Tryd.results50, go_sem, fr, nd0]; try rfl) rfl ?_
  exact ⟨nd0, _, _, _, _, _, rfl, R, P, rfl, by omega, by decide⟩
set_option maxHeartbeats 2000000 in
theorem escaped_g (b : Nat) (s : ByteArray) (l : List UInt8) (dz : Int) (k dp : Nat) (w : World) (R : Pa b s l (k : Int) dz 0 0 k dp w) (hk : k < l.length) (hend : k + 1 < l.length) (x : Nat) (hxx : Rx.pk l (k + 1) = x) (hr : ¬ (x < 32 ∨ 126 < x)) :
  Calls Tryd.prog 50 #[.pointer (some ⟨b, 0, none⟩)] w (EscP b w s l dp (.ok x (k + 2))) := by
 have hsz : s.size = l.length := by rw [Lib.size_eq, R.txt]
 have hl := R.ll
 have P := Kq.refl b w
 have h1 : (k : Int) + 1 < (s.size : Int) := by omega
 have h2 : ¬ ((s.size : Int) ≤ (k : Int) + 1) := by omega
 have h3 : (0 : Int) ≤ (k : Int) + 1 := by omega
 have hi : k + 1 < s.size := by omega
 have e1 : ((k : Int) + 1).toNat = k + 1 := by omega
 have hx0 := pk_byteAt R.txt (k + 1) hi
 have hx : (s[k + 1]'hi).toNat = x := by rw [hx0]; exact hxx
 clear hx0 hxx
 have q : (decide ((x : Int) < 32) || decide (126 < (x : Int))) = false := by simp; omega
 have fR := R.f
 go_enter Tryd.func50, Tryd.ntmps50
 go_wp2_with fail
 clear fR
 have uR0 := R.cells.lt
 have Dr : At ((w).alloc (.cells #[.int .u8 0, .bool false, .slice none 0 0, .slice none 0 0] 30)) (w.heap.size) [.int .u8 0, .bool false, .slice none 0 0, .slice none 0 0] := by have h := (At.new (w) #[.int .u8 0, .bool false, .slice none 0 0, .slice none 0 0] 30); simpa using h
 have R := (R.alloc (.cells #[.int .u8 0, .bool false, .slice none 0 0, .slice none 0 0] 30))
 have P := (P.alloc (.cells #[.int .u8 0, .bool false, .slice none 0 0, .slice none 0 0] 30))
 generalize (w).alloc (.cells #[.int .u8 0, .bool false, .slice none 0 0, .slice none 0 0] 30) = v0 at *
 have fr := Dr.f4
 have fR := R.f
 go_quiet (fail)
 clear fr fR
 have Dr := (Dr.drewN nq)
 have R := (R.drewN nq)
 have P := (P.drewN nq)
 generalize (v0).drewN nq = v1 at *
 have fr := Dr.f4
 have fR := R.f
 go_wp2_with fail
 go_quiet (fail)
 clear fr fR
 have Dr := (Dr.drewN nq)
 have R := (R.drewN nq)
 have P := (P.drewN nq)
 generalize (v1).drewN nq = v2 at *
 have fr := Dr.f4
 have fR := R.f
 go_wp2_with fail
 clear fr fR
 have Dr := (Dr.far (b' := b) (j := 1) (by omega) (.int .i64 ((k : Int) + 2)))
 have R := (R.move (z' := (k : Int) + 2) (k' := k + 2) (by omega) (by omega))
 have P := (P.setCell (p := ⟨b, 1, none⟩) (.inr rfl) (.int .i64 ((k : Int) + 2)))
 generalize (v2).setCell ⟨b, 1, none⟩ (.int .i64 ((k : Int) + 2)) = v3 at *
 have fr := Dr.f4
 have fR := R.f
 clear fr fR
 refine (rone_any x _).mono ?_
 rintro e w1 ⟨rfl, hb1, hsz1, hset⟩
 have ltrX1 := Dr.lt
 have ltRX1 := R.cells.lt
 have Dr := Dr.below hb1
 have R := R.below hb1
 have P := P.below hb1
 clear hb1
 have X1 := Kx.refl (v3.heap.size) w1
 have fr := Dr.f4
 have fR := R.f
 go_wp2
 clear fr fR
 have Dr := (Dr.puts4 (.int .u8 99) (.bool false) (.slice (some ⟨v3.heap.size + 1, 0, none⟩) 1 1) (.slice none 0 0))
 have R := (R.fars4 (w.heap.size) (by omega) (.int .u8 99) (.bool false) (.slice (some ⟨v3.heap.size + 1, 0, none⟩) 1 1) (.slice none 0 0))
 have P := (P.sets4 (w.heap.size) (by omega) (.int .u8 99) (.bool false) (.slice (some ⟨v3.heap.size + 1, 0, none⟩) 1 1) (.slice none 0 0))
 have X1 := (X1.sets4 (w.heap.size) (by omega) (.int .u8 99) (.bool false) (.slice (some ⟨v3.heap.size + 1, 0, none⟩) 1 1) (.slice none 0 0))
 generalize ((((w1).setCell ⟨w.heap.size, 0, none⟩ (.int .u8 99)).setCell ⟨w.heap.size, 1, none⟩ (.bool false)).setCell ⟨w.heap.size, 2, none⟩ (.slice (some ⟨v3.heap.size + 1, 0, none⟩) 1 1)).setCell ⟨w.heap.size, 3, none⟩ (.slice none 0 0) = v9 at *
 have fr := Dr.f4
 have fR := R.f
 refine bodyPost_ret (v := ndV ⟨99, false, some ⟨v3.heap.size + 1, 0, none⟩, 1, 1, none, 0, 0⟩) (by simp [results, Tryd.results50, go_sem, fr]; try rfl) rfl ?_
 exact ⟨⟨99, false, some ⟨v3.heap.size + 1, 0, none⟩, 1, 1, none, 0, 0⟩, _, _, _, _, _, rfl, R, P, rfl, rfl, rfl, rfl, rfl, rfl, rfl, hset.keep (fun g hg => ⟨by have := hg.1; omega, Nat.lt_of_lt_of_le hg.2 X1.le⟩) (fun g hg => X1.same g hg.1 hg.2)⟩
theorem escaped_any (b : Nat) (s : ByteArray) (l : List UInt8) (dz : Int) (k dp : Nat) (w : World) (R : Pa b s l (k : Int) dz 0 0 k dp w) (hk : k < l.length) :
  Calls Tryd.prog 50 #[.pointer (some ⟨b, 0, none⟩)] w (EscP b w s l dp (escR l k)) := by
 unfold escR
 by_cases hend : k + 1 < l.length
 ·
  split
  ·
   exact escaped_b b s l dz k dp w R hk hend _ rfl (by assumption)
  ·
   exact escaped_g b s l dz k dp w R hk hend _ rfl (by assumption)
 ·
  have hz := Rx.pk_end (l := l) (k := k + 1) (by omega)
  rw [if_pos (by omega)]
  exact escaped_e b s l dz k dp w R hk (by omega)
end Go.Proofs.YtcfdpbbpdnpnnaaDoor
