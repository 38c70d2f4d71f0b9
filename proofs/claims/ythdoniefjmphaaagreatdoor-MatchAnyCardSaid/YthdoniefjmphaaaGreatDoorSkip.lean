/- regex's reader: skip, single. -/
import Derived.Test.YthdoniefjmphaaaGreatDoorFrm
import Derived.Test.YthdoniefjmphaaaGreatDoorShelf
import Derived.Test.YthdoniefjmphaaaGreatDoorQuote
namespace Go.Proofs.YthdoniefjmphaaaGreatDoor
open Go Go.Proofs Go.RowKit Go.Shelf
set_option maxRecDepth 100000
attribute [local go_sem] cell_set
theorem peek_rd {base b g cap k : Nat} {s : ByteArray} {l : List UInt8} {n : Rx.Nt} {w : World} (R : Rd base b g cap s l k n w) :
  Calls Tryz.prog 109 #[.pointer (some ⟨b, 0, none⟩)] w fun e w' => e = .returned (.int .u8 (Rx.pk l k : Int)) ∧ Below w.heap.size w w' :=
 peek_any b s l R.txt (by have := R.ll; omega) k R.kl w (R.cells.cell 0 _ rfl) (R.cells.cell 1 _ rfl)
theorem skip_no (base b g cap k : Nat) (s : ByteArray) (l : List UInt8) (n : Rx.Nt) (w : World) (R : Rd base b g cap s l k n w) (c : Nat) (h : Rx.pk l k ≠ c) :
  Calls Tryz.prog 93 #[.pointer (some ⟨b, 0, none⟩), .int .u8 (c : Int)] w fun e w' => e = .returned (.bool false) ∧ Below w.heap.size w w' := by
 have hne : ((Rx.pk l k : Int) != (c : Int)) = true := by rw [bne_iff_ne]; omega
 have B := Below.refl w.heap.size w;go_enter Tryz.func93, Tryz.ntmps93
 go_wp2_with fail
 refine (peek_rd R).mono ?_;rintro e w1 ⟨rfl, hb⟩;generalize Rx.pk l k = x at *;go_wp2
 go_ret
 exact ⟨rfl, hb⟩
theorem skip_yes (base b g cap k : Nat) (s : ByteArray) (l : List UInt8) (n : Rx.Nt) (w : World) (R : Rd base b g cap s l k n w) (c : Nat) (hk : k < l.length) (h : Rx.pk l k = c) :
  Calls Tryz.prog 93 #[.pointer (some ⟨b, 0, none⟩), .int .u8 (c : Int)] w (GP base b g w s l (.bool true) (k + 1) n) := by
 have P := Kp.refl b g w;have hne : ((Rx.pk l k : Int) != (c : Int)) = false := by rw [h]; simp
 have HH := Lib.hid h;clear h;go_enter Tryz.func93, Tryz.ntmps93
 go_wp2_with fail
 refine (peek_rd R).mono ?_;rintro e w1 ⟨rfl, hb⟩;have R := R.below hb;have P := P.below hb;generalize Rx.pk l k = x at *;clear hb HH;have aR0 := R.cells.cell 0 _ rfl;have aR1 := R.cells.cell 1 _ rfl;have aR2 := R.cells.cell 2 _ rfl;have zR1 := R.cells.free 1 _ rfl;have zR2 := R.cells.free 2 _ rfl;have nR := R.lt.1;have nG := R.lt.2.1;have kR := R.kl;have hl64 := R.ll;go_wp2
 clear aR0 aR1 aR2 zR1 zR2 nR nG kR;have R := (R.move (k' := k + 1) (by omega));have P := (P.setCell (p := ⟨b, 1, none⟩) (.inr rfl) (.int .i64 ((k + 1 : Nat) : Int)));go_ret
 exact ⟨g, cap, rfl, R, P⟩
def SP (base b g : Nat) (w : World) (s : ByteArray) (l : List UInt8) (n : Rx.Nt) (r : Rx.Res Nat) (e : Ending) (w' : World) : Prop := match r with
 | .ok x j => GP base b g w s l (.tuple #[.int .u8 (x : Int), .int .i64 0]) j n e w'
 | .bad er j => GP base b g w s l (.tuple #[.int .u8 0, .int .i64 (er : Int)]) j n e w'
theorem index_nat (sp : List UInt8) (x : Nat) (hx : x < 256) (W : World) : Calls Tryz.prog 114 #[.string ⟨sp.toArray⟩, .int .u8 (x : Int)] W fun e w' => e = .returned (.int .i64 (Lib.indexByte sp x.toUInt8)) ∧ W = w' :=
 (Tryz.strings_IndexByte ⟨sp.toArray⟩ (x : Int) W).mono (fun _ _ ⟨a, b⟩ => ⟨by rw [a]; simp, b.symm⟩)
set_option maxHeartbeats 4000000 in
theorem single_bl (base b g cap k : Nat) (s : ByteArray) (l : List UInt8) (n : Rx.Nt) (sp : List UInt8) (w : World) (R : Rd base b g cap s l k n w) (h92 : Rx.pk l k = 92) (h : Rx.pk l (k + 1) < 32) :
  Calls Tryz.prog 128 #[.pointer (some ⟨b, 0, none⟩), .string ⟨sp.toArray⟩] w (GP base b g w s l (.tuple #[.int .u8 0, .int .i64 2]) (k + 1) n) := by
 have P := Kp.refl b g w;have hx := Rx.pk_byte l (k + 1);have hl64 := R.ll;have hk0 := Rx.pk_lt (l := l) (k := k) (by omega);have q1 : decide ((Rx.pk l (k + 1) : Int) < 32) = true := decide_eq_true (by omega);have q2 : decide (126 < (Rx.pk l (k + 1) : Int)) = false := decide_eq_false (by omega);have HR := Lib.hid h92;clear h92;go_enter Tryz.func128, Tryz.ntmps128
 go_wp2_with fail
 refine (skip_yes base b g cap k s l n _ R 92 hk0 HR.out).mono ?_;rintro e w1 ⟨g1, cap1, rfl, R, K1⟩;have P := P.trans K1;clear K1;clear HR;go_wp2_with fail
 refine (peek_rd R).mono ?_;rintro e w2 ⟨rfl, hb⟩;have R := R.below hb;have P := P.below hb;clear hb;generalize Rx.pk l (k + 1) = x at *;go_wp2
 go_ret2
 exact ⟨_, _, rfl, R, P⟩
set_option maxHeartbeats 4000000 in
theorem single_bh (base b g cap k : Nat) (s : ByteArray) (l : List UInt8) (n : Rx.Nt) (sp : List UInt8) (w : World) (R : Rd base b g cap s l k n w) (h92 : Rx.pk l k = 92) (h : 126 < Rx.pk l (k + 1)) :
  Calls Tryz.prog 128 #[.pointer (some ⟨b, 0, none⟩), .string ⟨sp.toArray⟩] w (GP base b g w s l (.tuple #[.int .u8 0, .int .i64 2]) (k + 1) n) := by
 have P := Kp.refl b g w;have hx := Rx.pk_byte l (k + 1);have hl64 := R.ll;have hk0 := Rx.pk_lt (l := l) (k := k) (by omega);have q1 : decide ((Rx.pk l (k + 1) : Int) < 32) = false := decide_eq_false (by omega);have q2 : decide (126 < (Rx.pk l (k + 1) : Int)) = true := decide_eq_true (by omega);have HR := Lib.hid h92;clear h92;go_enter Tryz.func128, Tryz.ntmps128
 go_wp2_with fail
 refine (skip_yes base b g cap k s l n _ R 92 hk0 HR.out).mono ?_;rintro e w1 ⟨g1, cap1, rfl, R, K1⟩;have P := P.trans K1;clear K1;clear HR;go_wp2_with fail
 refine (peek_rd R).mono ?_;rintro e w2 ⟨rfl, hb⟩;have R := R.below hb;have P := P.below hb;clear hb;generalize Rx.pk l (k + 1) = x at *;go_wp2
 go_ret2
 exact ⟨_, _, rfl, R, P⟩
set_option maxHeartbeats 4000000 in
theorem single_bo (base b g cap k : Nat) (s : ByteArray) (l : List UInt8) (n : Rx.Nt) (sp : List UInt8) (w : World) (R : Rd base b g cap s l k n w) (h92 : Rx.pk l k = 92) (h1 : ¬ Rx.pk l (k + 1) < 32) (h2 : ¬ 126 < Rx.pk l (k + 1)) :
  Calls Tryz.prog 128 #[.pointer (some ⟨b, 0, none⟩), .string ⟨sp.toArray⟩] w (GP base b g w s l (.tuple #[.int .u8 (Rx.pk l (k + 1) : Int), .int .i64 0]) (k + 1 + 1) n) := by
 have P := Kp.refl b g w;have hx := Rx.pk_byte l (k + 1);have hl64 := R.ll;have hk0 := Rx.pk_lt (l := l) (k := k) (by omega);have hk1 := Rx.pk_lt (l := l) (k := k + 1) (by omega);have q1 : decide ((Rx.pk l (k + 1) : Int) < 32) = false := decide_eq_false (by omega);have q2 : decide (126 < (Rx.pk l (k + 1) : Int)) = false := decide_eq_false (by omega);have HR := Lib.hid h92;clear h92;go_enter Tryz.func128, Tryz.ntmps128
 go_wp2_with fail
 refine (skip_yes base b g cap k s l n _ R 92 hk0 HR.out).mono ?_;rintro e w1 ⟨g1, cap1, rfl, R, K1⟩;have P := P.trans K1;clear K1;clear HR;go_wp2_with fail
 refine (peek_rd R).mono ?_;rintro e w2 ⟨rfl, hb⟩;have R := R.below hb;have P := P.below hb;clear hb;generalize Rx.pk l (k + 1) = x at *;have aR0 := R.cells.cell 0 _ rfl;have aR1 := R.cells.cell 1 _ rfl;have aR2 := R.cells.cell 2 _ rfl;have zR1 := R.cells.free 1 _ rfl;have zR2 := R.cells.free 2 _ rfl;have nR := R.lt.1;have nG := R.lt.2.1;have kR := R.kl;go_wp2
 clear aR0 aR1 aR2 zR1 zR2 nR nG kR;have R := (R.move (k' := k + 1 + 1) (by omega));have P := (P.setCell (p := ⟨b, 1, none⟩) (.inr rfl) (.int .i64 ((k + 1 + 1 : Nat) : Int)));go_ret2
 exact ⟨_, _, rfl, R, P⟩
set_option maxHeartbeats 4000000 in
theorem single_l (base b g cap k : Nat) (s : ByteArray) (l : List UInt8) (n : Rx.Nt) (sp : List UInt8) (w : World) (R : Rd base b g cap s l k n w) (h92 : Rx.pk l k ≠ 92) (h : Rx.pk l (k) < 32) :
  Calls Tryz.prog 128 #[.pointer (some ⟨b, 0, none⟩), .string ⟨sp.toArray⟩] w (GP base b g w s l (.tuple #[.int .u8 0, .int .i64 2]) (k) n) := by
 have P := Kp.refl b g w;have hx := Rx.pk_byte l (k);have hl64 := R.ll;have q1 : decide ((Rx.pk l (k) : Int) < 32) = true := decide_eq_true (by omega);have q2 : decide (126 < (Rx.pk l (k) : Int)) = false := decide_eq_false (by omega);have HR := Lib.hid h92;clear h92;go_enter Tryz.func128, Tryz.ntmps128
 go_wp2_with fail
 refine (skip_no base b g cap k s l n _ R 92 HR.out).mono ?_;rintro e w1 ⟨rfl, hb⟩;have R := R.below hb;have P := P.below hb;clear hb;clear HR;go_wp2_with fail
 refine (peek_rd R).mono ?_;rintro e w2 ⟨rfl, hb⟩;have R := R.below hb;have P := P.below hb;clear hb;generalize Rx.pk l (k) = x at *;go_wp2
 go_ret2
 exact ⟨_, _, rfl, R, P⟩
set_option maxHeartbeats 4000000 in
theorem single_h (base b g cap k : Nat) (s : ByteArray) (l : List UInt8) (n : Rx.Nt) (sp : List UInt8) (w : World) (R : Rd base b g cap s l k n w) (h92 : Rx.pk l k ≠ 92) (h : 126 < Rx.pk l (k)) :
  Calls Tryz.prog 128 #[.pointer (some ⟨b, 0, none⟩), .string ⟨sp.toArray⟩] w (GP base b g w s l (.tuple #[.int .u8 0, .int .i64 2]) (k) n) := by
 have P := Kp.refl b g w;have hx := Rx.pk_byte l (k);have hl64 := R.ll;have q1 : decide ((Rx.pk l (k) : Int) < 32) = false := decide_eq_false (by omega);have q2 : decide (126 < (Rx.pk l (k) : Int)) = true := decide_eq_true (by omega);have HR := Lib.hid h92;clear h92;go_enter Tryz.func128, Tryz.ntmps128
 go_wp2_with fail
 refine (skip_no base b g cap k s l n _ R 92 HR.out).mono ?_;rintro e w1 ⟨rfl, hb⟩;have R := R.below hb;have P := P.below hb;clear hb;clear HR;go_wp2_with fail
 refine (peek_rd R).mono ?_;rintro e w2 ⟨rfl, hb⟩;have R := R.below hb;have P := P.below hb;clear hb;generalize Rx.pk l (k) = x at *;go_wp2
 go_ret2
 exact ⟨_, _, rfl, R, P⟩
set_option maxHeartbeats 4000000 in
theorem single_s (base b g cap k : Nat) (s : ByteArray) (l : List UInt8) (n : Rx.Nt) (sp : List UInt8) (w : World) (R : Rd base b g cap s l k n w) (h92 : Rx.pk l k ≠ 92) (h1 : ¬ Rx.pk l (k) < 32) (h2 : ¬ 126 < Rx.pk l (k)) (h : Rx.inS sp (Rx.pk l (k)) = true) :
  Calls Tryz.prog 128 #[.pointer (some ⟨b, 0, none⟩), .string ⟨sp.toArray⟩] w (GP base b g w s l (.tuple #[.int .u8 0, .int .i64 2]) (k) n) := by
 have P := Kp.refl b g w;have hx := Rx.pk_byte l (k);have hl64 := R.ll;have q1 : decide ((Rx.pk l (k) : Int) < 32) = false := decide_eq_false (by omega);have q2 : decide (126 < (Rx.pk l (k) : Int)) = false := decide_eq_false (by omega);have qi := (idx_in (Rx.pk l k).toUInt8 sp).1;unfold Rx.inS at h;rw [h] at qi;have IX := Lib.hid (index_nat sp (Rx.pk l k) hx);clear h;have HR := Lib.hid h92;clear h92;go_enter Tryz.func128, Tryz.ntmps128
 go_wp2_with fail
 refine (skip_no base b g cap k s l n _ R 92 HR.out).mono ?_;rintro e w1 ⟨rfl, hb⟩;have R := R.below hb;have P := P.below hb;clear hb;clear HR;go_wp2_with fail
 refine (peek_rd R).mono ?_;rintro e w2 ⟨rfl, hb⟩;have R := R.below hb;have P := P.below hb;clear hb;generalize Rx.pk l (k) = x at *;generalize Lib.indexByte sp x.toUInt8 = ix at *;go_wp2_with fail
 refine (IX.out _).mono ?_;rintro e w3 ⟨rfl, rfl⟩;clear IX;go_wp2
 go_ret2
 exact ⟨_, _, rfl, R, P⟩
set_option maxHeartbeats 4000000 in
theorem single_o (base b g cap k : Nat) (s : ByteArray) (l : List UInt8) (n : Rx.Nt) (sp : List UInt8) (w : World) (R : Rd base b g cap s l k n w) (h92 : Rx.pk l k ≠ 92) (h1 : ¬ Rx.pk l (k) < 32) (h2 : ¬ 126 < Rx.pk l (k)) (h : Rx.inS sp (Rx.pk l (k)) = false) :
  Calls Tryz.prog 128 #[.pointer (some ⟨b, 0, none⟩), .string ⟨sp.toArray⟩] w (GP base b g w s l (.tuple #[.int .u8 (Rx.pk l (k) : Int), .int .i64 0]) (k + 1) n) := by
 have P := Kp.refl b g w;have hx := Rx.pk_byte l (k);have hl64 := R.ll;have hk1 := Rx.pk_lt (l := l) (k := k) (by omega);have q1 : decide ((Rx.pk l (k) : Int) < 32) = false := decide_eq_false (by omega);have q2 : decide (126 < (Rx.pk l (k) : Int)) = false := decide_eq_false (by omega);have qi := (idx_in (Rx.pk l k).toUInt8 sp).1;unfold Rx.inS at h;rw [h] at qi;have IX := Lib.hid (index_nat sp (Rx.pk l k) hx);clear h;have HR := Lib.hid h92;clear h92;go_enter Tryz.func128, Tryz.ntmps128
 go_wp2_with fail
 refine (skip_no base b g cap k s l n _ R 92 HR.out).mono ?_;rintro e w1 ⟨rfl, hb⟩;have R := R.below hb;have P := P.below hb;clear hb;clear HR;go_wp2_with fail
 refine (peek_rd R).mono ?_;rintro e w2 ⟨rfl, hb⟩;have R := R.below hb;have P := P.below hb;clear hb;generalize Rx.pk l (k) = x at *;generalize Lib.indexByte sp x.toUInt8 = ix at *;go_wp2_with fail
 refine (IX.out _).mono ?_;rintro e w3 ⟨rfl, rfl⟩;clear IX;have aR0 := R.cells.cell 0 _ rfl;have aR1 := R.cells.cell 1 _ rfl;have aR2 := R.cells.cell 2 _ rfl;have zR1 := R.cells.free 1 _ rfl;have zR2 := R.cells.free 2 _ rfl;have nR := R.lt.1;have nG := R.lt.2.1;have kR := R.kl;go_wp2
 clear aR0 aR1 aR2 zR1 zR2 nR nG kR;have R := (R.move (k' := k + 1) (by omega));have P := (P.setCell (p := ⟨b, 1, none⟩) (.inr rfl) (.int .i64 ((k + 1 : Nat) : Int)));go_ret2
 exact ⟨_, _, rfl, R, P⟩
theorem single_any (base b g cap k : Nat) (s : ByteArray) (l : List UInt8) (n : Rx.Nt) (sp : List UInt8) (w : World) (R : Rd base b g cap s l k n w) :
  Calls Tryz.prog 128 #[.pointer (some ⟨b, 0, none⟩), .string ⟨sp.toArray⟩] w (SP base b g w s l n (Rx.singleF sp l k)) := by
 unfold Rx.singleF;by_cases h92 : Rx.pk l k = 92
 ·
  rw [if_pos h92];by_cases h1 : Rx.pk l (k + 1) < 32
  ·
   rw [if_pos (Or.inl h1)]; exact single_bl base b g cap k s l n sp w R h92 h1
  ·
   by_cases h2 : 126 < Rx.pk l (k + 1)
   ·
    rw [if_pos (Or.inr h2)]; exact single_bh base b g cap k s l n sp w R h92 h2
   ·
    rw [if_neg (fun q => q.elim h1 h2)]; exact single_bo base b g cap k s l n sp w R h92 h1 h2
 ·
  rw [if_neg h92];by_cases h1 : Rx.pk l k < 32
  ·
   rw [if_pos (Or.inl h1)]; exact single_l base b g cap k s l n sp w R h92 h1
  ·
   by_cases h2 : 126 < Rx.pk l k
   ·
    rw [if_pos (Or.inr (Or.inl h2))]; exact single_h base b g cap k s l n sp w R h92 h2
   ·
    cases h3 : Rx.inS sp (Rx.pk l k)
    ·
     rw [if_neg (fun q => by rcases q with q | q | q; exact h1 q; exact h2 q; cases q)]; exact single_o base b g cap k s l n sp w R h92 h1 h2 h3
    ·
     rw [if_pos (Or.inr (Or.inr rfl))]; exact single_s base b g cap k s l n sp w R h92 h1 h2 h3
end Go.Proofs.YthdoniefjmphaaaGreatDoor
