/- regex.Compile. -/
import Derived.Test.YtcfdpbbpdnpnnaaDoorWhole
namespace Go.Proofs.YtcfdpbbpdnpnnaaDoor
open Go Go.Proofs Go.RowKit Go.Shelf
set_option maxRecDepth 100000
attribute [local go_sem] cell_set
/-- a pattern that was read, at block rb -/
def RxAt (base rb : Nat) (s : ByteArray) (l : List UInt8) (p : Rx.Pt) (w : World) : Prop :=
 ∃ g cap, s.data.toList = l ∧ At w rb [.string s, .int .u64 (word (Rx.beginN p) 0), .int .u64 (word (Rx.beginN p) 1), .int .u64 (word (Rx.beginN p) 2), .int .u64 (word (Rx.beginN p) 3), rowV g (Rx.netN p).length cap] ∧ NetR base w (rowV g (Rx.netN p).length cap) (Rx.netN p)
/-- what Compile answers -/
def CP (w : World) (s : ByteArray) (l : List UInt8) (r : Rx.Res Rx.Pt) (e : Ending) (w' : World) : Prop := Below w.heap.size w w' ∧ match r with
 | .bad er j => e = .returned (.tuple #[.pointer none, .int .i64 (j : Int), .int .i64 (er : Int)])
 | .ok p _ => ∃ rb, e = .returned (.tuple #[.pointer (some ⟨rb, 0, none⟩), .int .i64 0, .int .i64 0]) ∧ w.heap.size ≤ rb ∧ RxAt w.heap.size rb s l p w'
theorem clone_w (s : ByteArray) (hl : s.size ≤ 1000) (w : World) :
  Calls Tryd.prog 19 #[.string s] w fun e w' => e = .returned (.string s) ∧ Below w.heap.size w w' := by
 go_enter Tryd.func19, Tryd.ntmps19
 go_wp2_with fail
 refine (Tryd.stringslite_Clone s _ (by omega)).mono ?_
 rintro e w1 ⟨rfl, hb⟩
 go_wp2
 go_ret
 exact ⟨rfl, hb⟩
theorem rd_new (w : World) (hT : Tab w) (s : ByteArray) (l : List UInt8) (hud : s.data.toList = l) (hl : l.length ≤ 64) :
  Rd w.heap.size (w.heap.size + 1) w.heap.size 1 s l 0 [(0, 0)] ((w.alloc (.cells #[.int .u64 0, .int .u64 0, .int .u64 0, .int .u64 0, .int .u64 0, .int .u64 0, .int .u64 0, .int .u64 0] 47)).alloc (.cells #[.string s, .int .i64 0, rowV w.heap.size 1 1] 51)) := by
 have hlt := hT.lt
 refine ⟨hud, hl, Nat.zero_le _, ?_, ⟨?_, (hT.alloc _).alloc _, fun e => by have e2 := Option.some.inj e; dsimp only at e2; omega, by simp⟩, by simp, by omega, by omega⟩
 ·
  have h := At.new (w.alloc (.cells #[.int .u64 0, .int .u64 0, .int .u64 0, .int .u64 0, .int .u64 0, .int .u64 0, .int .u64 0, .int .u64 0] 47)) #[.string s, .int .i64 0, rowV w.heap.size 1 1] 51
  simpa using h
 ·
  refine ⟨by simp [cellsN_length], .inr ⟨w.heap.size, 1, #[.int .u64 0, .int .u64 0, .int .u64 0, .int .u64 0, .int .u64 0, .int .u64 0, .int .u64 0, .int .u64 0], rfl, Nat.le_refl _, ?_, Nat.le_refl _, by unfold maxLen; omega, rfl, ?_⟩⟩
  ·
   exact (Below.heap_alloc _ _ _ (by simp)).trans (World.alloc_heap_new w _)
  ·
   simp [cellsN, nodeV, wordsV, word_zero]
set_option maxHeartbeats 1000000 in
theorem compile_l (s : ByteArray) (l : List UInt8) (hud : s.data.toList = l) (h1000 : l.length ≤ 1000) (w : World) (hl : 64 < l.length) : Calls Tryd.prog 9 #[.string s] w (CP w s l (.bad 4 0)) := by
 have hsz : s.size = l.length := by rw [Lib.size_eq, hud]
 have d1 : decide ((64 : Int) < (s.size : Int)) = true := decide_eq_true (by omega)
 have d2 : decide (64 < s.size) = true := decide_eq_true (by omega)
 clear hud hsz
 go_enter Tryd.func9, Tryd.ntmps9
 go_wp2
 go_ret3
 exact ⟨Below.refl _ _, rfl⟩
set_option maxHeartbeats 4000000 in
theorem compile_b (s : ByteArray) (l : List UInt8) (hud : s.data.toList = l) (w : World) (hT : Tab w) (hl : l.length ≤ 64) (er i : Nat) (hr : wholeF l = .bad er i) (he : er = 2 ∨ er = 4) : Calls Tryd.prog 9 #[.string s] w (CP w s l (.bad er i)) := by
 have hsz : s.size = l.length := by rw [Lib.size_eq, hud]
 have hs64 : s.size ≤ 64 := by omega
 have hR := rd_new w hT s l hud hl
 have d1 : decide ((64 : Int) < (s.size : Int)) = false := decide_eq_false (by omega)
 have d2 : decide (64 < s.size) = false := decide_eq_false (by omega)
 have HUD := Lib.hid hud
 have HR := Lib.hid hr
 have HRD := Lib.hid hR
 have htl := hT.lt
 clear hud hsz hr hR
 have hne : ((er : Int) != 0) = true := by rw [bne_iff_ne]; omega
 go_enter Tryd.func9, Tryd.ntmps9
 go_wp2_with fail
 obtain ⟨W1, hW1⟩ : ∃ W1, ((w.alloc (.cells #[.int .u64 0, .int .u64 0, .int .u64 0, .int .u64 0, .int .u64 0, .int .u64 0, .int .u64 0, .int .u64 0] 47)).alloc (.cells #[.string s, .int .i64 0, .slice (some ⟨w.heap.size, 0, none⟩) 1 1] 51)) = W1 := ⟨_, rfl⟩
 have R : Rd w.heap.size (w.heap.size + 1) w.heap.size 1 s l 0 [(0, 0)] W1 := by rw [← hW1]; exact HRD.out
 have hB1 : Below w.heap.size w W1 := by rw [← hW1]; go_grown
 have hs1 : W1.heap.size = w.heap.size + 2 := by rw [← hW1]; simp
 rw [hW1]
 clear hW1
 obtain ⟨b, hb⟩ : ∃ b, b = w.heap.size + 1 := ⟨_, rfl⟩
 rw [← hb] at R
 rw [← hb]
 have hb1 : b ≤ w.heap.size + 1 := by omega
 have hb2 : w.heap.size + 1 ≤ b := by omega
 clear hb
 have P := Kp.refl b w.heap.size W1
 refine (whole_any w.heap.size b _ _ s l _ _ R (by simp)).mono ?_
 rintro e w1 ⟨x, er0, g1, cap1, n1, j0, rfl, hst, R2, K2⟩
 have hrow := K2.row
 have P := P.trans K2
 have R := R2
 clear R2 K2 hrow
 have fR := R.f
 rw [HR.out] at hst
 obtain ⟨rfl, hji, hlen⟩ := hst
 obtain rfl : i = j0 := hji.symm
 clear fR
 have fR := R.f
 go_upto_region 6 with (fail)
 clear fR
 have uG0 := R.lt.2.1
 have Da : At ((w1).alloc (.cells #[.int .u64 (word (x.first) 0), .int .u64 (word (x.first) 1), .int .u64 (word (x.first) 2), .int .u64 (word (x.first) 3), .int .u64 (word (x.last) 0), .int .u64 (word (x.last) 1), .int .u64 (word (x.last) 2), .int .u64 (word (x.last) 3), .bool x.none] 53)) (w1.heap.size) [.int .u64 (word (x.first) 0), .int .u64 (word (x.first) 1), .int .u64 (word (x.first) 2), .int .u64 (word (x.first) 3), .int .u64 (word (x.last) 0), .int .u64 (word (x.last) 1), .int .u64 (word (x.last) 2), .int .u64 (word (x.last) 3), .bool x.none] := by have h := (At.new (w1) #[.int .u64 (word (x.first) 0), .int .u64 (word (x.first) 1), .int .u64 (word (x.first) 2), .int .u64 (word (x.first) 3), .int .u64 (word (x.last) 0), .int .u64 (word (x.last) 1), .int .u64 (word (x.last) 2), .int .u64 (word (x.last) 3), .bool x.none] 53); simpa using h
 have R := (R.alloc (.cells #[.int .u64 (word (x.first) 0), .int .u64 (word (x.first) 1), .int .u64 (word (x.first) 2), .int .u64 (word (x.first) 3), .int .u64 (word (x.last) 0), .int .u64 (word (x.last) 1), .int .u64 (word (x.last) 2), .int .u64 (word (x.last) 3), .bool x.none] 53))
 have P := (P.alloc (.cells #[.int .u64 (word (x.first) 0), .int .u64 (word (x.first) 1), .int .u64 (word (x.first) 2), .int .u64 (word (x.first) 3), .int .u64 (word (x.last) 0), .int .u64 (word (x.last) 1), .int .u64 (word (x.last) 2), .int .u64 (word (x.last) 3), .bool x.none] 53))
 generalize (w1).alloc (.cells #[.int .u64 (word (x.first) 0), .int .u64 (word (x.first) 1), .int .u64 (word (x.first) 2), .int .u64 (word (x.first) 3), .int .u64 (word (x.last) 0), .int .u64 (word (x.last) 1), .int .u64 (word (x.last) 2), .int .u64 (word (x.last) 3), .bool x.none] 53) = w8 at *
 have Da : At ((w8).drew) (w1.heap.size) [.int .u64 (word (x.first) 0), .int .u64 (word (x.first) 1), .int .u64 (word (x.first) 2), .int .u64 (word (x.first) 3), .int .u64 (word (x.last) 0), .int .u64 (word (x.last) 1), .int .u64 (word (x.last) 2), .int .u64 (word (x.last) 3), .bool x.none] := Da.drew
 have R := R.drew
 have P := P.drew
 refine wp_region_held_drew (S := fun u => At u b [.string s, .int .i64 (i : Int), rowV g1 n1.length cap1]) (by kernel_rfl) ?_ (fun hS => ?_)
 ·
  exact R.cells
 generalize (w8).drew = v1 at *
 refine' wpAnyH_take (i := 0) (oi := ?oir1) (v := ?vr1) ?hir1 (by kernel_rfl) (by kernel_rfl) (by kernel_rfl) ?hQr1 ?hyr1 hS ?restr1
 case hir1 =>
  simp only [qa, qb, qc]
  exact rfl
 case hQr1 => exact fun _ _ _ h => h
 case hyr1 =>
  refine Or.inl ⟨by rfl, ?_⟩
  intro u hSw
  go_simp
  (try with_reducible rfl)
 (try simp only [Act.put, qd, qe, qf])
 refine' wpAnyH_take (i := 1) (oi := ?oir2) (v := ?vr2) ?hir2 (by kernel_rfl) (by kernel_rfl) (by kernel_rfl) ?hQr2 ?hyr2 hS ?restr2
 case hir2 =>
  simp only [qa, qb, qc]
  exact rfl
 case hQr2 => exact fun _ _ _ h => h
 case hyr2 =>
  refine Or.inl ⟨by rfl, ?_⟩
  intro u hSw
  have eR := hSw
  have kR0 := eR.cell 0 _ rfl
  have kR1 := eR.cell 1 _ rfl
  have kR2 := eR.cell 2 _ rfl
  have mR := eR.lt
  clear eR
  go_simp
  (try with_reducible rfl)
 (try simp only [Act.put, qd, qe, qf])
 refine' wpAnyH_take (i := 2) (oi := ?oir3) (v := ?vr3) ?hir3 (by kernel_rfl) (by kernel_rfl) (by kernel_rfl) ?hQr3 ?hyr3 hS ?restr3
 case hir3 =>
  simp only [qa, qb, qc]
  exact rfl
 case hQr3 => exact fun _ _ _ h => h
 case hyr3 =>
  refine Or.inl ⟨by rfl, ?_⟩
  intro u hSw
  go_simp
  (try with_reducible rfl)
 (try simp only [Act.put, qd, qe, qf])
 refine' wpAnyH_take (i := 3) (oi := ?oir4) (v := ?vr4) ?hir4 (by kernel_rfl) (by kernel_rfl) (by kernel_rfl) ?hQr4 ?hyr4 hS ?restr4
 case hir4 =>
  simp only [qa, qb, qc]
  exact rfl
 case hQr4 => exact fun _ _ _ h => h
 case hyr4 =>
  refine Or.inl ⟨by rfl, ?_⟩
  intro u hSw
  go_simp
  (try with_reducible rfl)
 (try simp only [Act.put, qd, qe, qf])
 refine' wpAnyH_take (i := 4) (oi := ?oir5) (v := ?vr5) ?hir5 (by kernel_rfl) (by kernel_rfl) (by kernel_rfl) ?hQr5 ?hyr5 hS ?restr5
 case hir5 =>
  simp only [qa, qb, qc]
  exact rfl
 case hQr5 => exact fun _ _ _ h => h
 case hyr5 =>
  refine Or.inl ⟨by rfl, ?_⟩
  intro u hSw
  go_simp
  (try with_reducible rfl)
 (try simp only [Act.put, qd, qe, qf])
 refine' wpAnyH_take (i := 5) (oi := ?oir6) (v := ?vr6) ?hir6 (by kernel_rfl) (by kernel_rfl) (by kernel_rfl) ?hQr6 ?hyr6 hS ?restr6
 case hir6 =>
  simp only [qa, qb, qc]
  exact rfl
 case hQr6 => exact fun _ _ _ h => h
 case hyr6 =>
  refine Or.inl ⟨by rfl, ?_⟩
  intro u hSw
  go_simp
  (try with_reducible rfl)
 (try simp only [Act.put, qd, qe, qf])
 refine wpAnyH_done (by kernel_rfl) ?_ _
 clear hS
 have hbw : Below w.heap.size w v1 := hB1.trans ⟨P.os, P.tape, P.output, P.size, fun i hi => P.block i (by omega) (by omega) (by omega)⟩
 have HB := Lib.hid hbw
 clear hbw P R
 go_wp2
 go_ret3
 exact ⟨HB.out, rfl⟩
set_option maxHeartbeats 4000000 in
theorem compile_o (s : ByteArray) (l : List UInt8) (hud : s.data.toList = l) (w : World) (hT : Tab w) (hl : l.length ≤ 64) (p : Rx.Pt) (i : Nat) (hr : wholeF l = .ok p i) : Calls Tryd.prog 9 #[.string s] w (CP w s l (.ok p 0)) := by
 have hsz : s.size = l.length := by rw [Lib.size_eq, hud]
 have hs64 : s.size ≤ 64 := by omega
 have hR := rd_new w hT s l hud hl
 have d1 : decide ((64 : Int) < (s.size : Int)) = false := decide_eq_false (by omega)
 have d2 : decide (64 < s.size) = false := decide_eq_false (by omega)
 have HUD := Lib.hid hud
 have HR := Lib.hid hr
 have HRD := Lib.hid hR
 have htl := hT.lt
 clear hud hsz hr hR
 go_enter Tryd.func9, Tryd.ntmps9
 go_wp2_with fail
 obtain ⟨W1, hW1⟩ : ∃ W1, ((w.alloc (.cells #[.int .u64 0, .int .u64 0, .int .u64 0, .int .u64 0, .int .u64 0, .int .u64 0, .int .u64 0, .int .u64 0] 47)).alloc (.cells #[.string s, .int .i64 0, .slice (some ⟨w.heap.size, 0, none⟩) 1 1] 51)) = W1 := ⟨_, rfl⟩
 have R : Rd w.heap.size (w.heap.size + 1) w.heap.size 1 s l 0 [(0, 0)] W1 := by rw [← hW1]; exact HRD.out
 have hB1 : Below w.heap.size w W1 := by rw [← hW1]; go_grown
 have hs1 : W1.heap.size = w.heap.size + 2 := by rw [← hW1]; simp
 rw [hW1]
 clear hW1
 obtain ⟨b, hb⟩ : ∃ b, b = w.heap.size + 1 := ⟨_, rfl⟩
 rw [← hb] at R
 rw [← hb]
 have hb1 : b ≤ w.heap.size + 1 := by omega
 have hb2 : w.heap.size + 1 ≤ b := by omega
 clear hb
 have P := Kp.refl b w.heap.size W1
 refine (whole_any w.heap.size b _ _ s l _ _ R (by simp)).mono ?_
 rintro e w1 ⟨x, er0, g1, cap1, n1, j0, rfl, hst, R2, K2⟩
 have hrow := K2.row
 have P := P.trans K2
 have R := R2
 clear R2 K2 hrow
 have fR := R.f
 rw [HR.out] at hst
 obtain ⟨hx, rfl, hji, hn1⟩ := hst
 obtain rfl : i = j0 := hji.symm
 have HX := Lib.hid hx
 have HN := Lib.hid hn1
 have HL := Lib.hid (last_lt p _ hx hn1)
 clear hx hn1
 clear fR
 have fR := R.f
 go_upto_region 7 with (fail)
 clear fR
 have uG0 := R.lt.2.1
 have Da : At ((w1).alloc (.cells #[.int .u64 (word (x.first) 0), .int .u64 (word (x.first) 1), .int .u64 (word (x.first) 2), .int .u64 (word (x.first) 3), .int .u64 (word (x.last) 0), .int .u64 (word (x.last) 1), .int .u64 (word (x.last) 2), .int .u64 (word (x.last) 3), .bool x.none] 53)) (w1.heap.size) [.int .u64 (word (x.first) 0), .int .u64 (word (x.first) 1), .int .u64 (word (x.first) 2), .int .u64 (word (x.first) 3), .int .u64 (word (x.last) 0), .int .u64 (word (x.last) 1), .int .u64 (word (x.last) 2), .int .u64 (word (x.last) 3), .bool x.none] := by have h := (At.new (w1) #[.int .u64 (word (x.first) 0), .int .u64 (word (x.first) 1), .int .u64 (word (x.first) 2), .int .u64 (word (x.first) 3), .int .u64 (word (x.last) 0), .int .u64 (word (x.last) 1), .int .u64 (word (x.last) 2), .int .u64 (word (x.last) 3), .bool x.none] 53); simpa using h
 have R := (R.alloc (.cells #[.int .u64 (word (x.first) 0), .int .u64 (word (x.first) 1), .int .u64 (word (x.first) 2), .int .u64 (word (x.first) 3), .int .u64 (word (x.last) 0), .int .u64 (word (x.last) 1), .int .u64 (word (x.last) 2), .int .u64 (word (x.last) 3), .bool x.none] 53))
 have P := (P.alloc (.cells #[.int .u64 (word (x.first) 0), .int .u64 (word (x.first) 1), .int .u64 (word (x.first) 2), .int .u64 (word (x.first) 3), .int .u64 (word (x.last) 0), .int .u64 (word (x.last) 1), .int .u64 (word (x.last) 2), .int .u64 (word (x.last) 3), .bool x.none] 53))
 generalize (w1).alloc (.cells #[.int .u64 (word (x.first) 0), .int .u64 (word (x.first) 1), .int .u64 (word (x.first) 2), .int .u64 (word (x.first) 3), .int .u64 (word (x.last) 0), .int .u64 (word (x.last) 1), .int .u64 (word (x.last) 2), .int .u64 (word (x.last) 3), .bool x.none] 53) = w8 at *
 have Da : At ((w8).drew) (w1.heap.size) [.int .u64 (word (x.first) 0), .int .u64 (word (x.first) 1), .int .u64 (word (x.first) 2), .int .u64 (word (x.first) 3), .int .u64 (word (x.last) 0), .int .u64 (word (x.last) 1), .int .u64 (word (x.last) 2), .int .u64 (word (x.last) 3), .bool x.none] := Da.drew
 have R := R.drew
 have P := P.drew
 refine wp_region_held_drew (S := fun u => At u (w1.heap.size) [.int .u64 (word (x.first) 0), .int .u64 (word (x.first) 1), .int .u64 (word (x.first) 2), .int .u64 (word (x.first) 3), .int .u64 (word (x.last) 0), .int .u64 (word (x.last) 1), .int .u64 (word (x.last) 2), .int .u64 (word (x.last) 3), .bool x.none] ∧ At u b [.string s, .int .i64 (i : Int), rowV g1 n1.length cap1]) (by kernel_rfl) ?_ (fun hS => ?_)
 ·
  exact ⟨Da, R.cells⟩
 generalize (w8).drew = v1 at *
 refine' wpAnyH_take (i := 0) (oi := ?oir8) (v := ?vr8) ?hir8 (by kernel_rfl) (by kernel_rfl) (by kernel_rfl) ?hQr8 ?hyr8 hS ?restr8
 case hir8 =>
  simp only [qa, qb, qc]
  exact rfl
 case hQr8 => exact fun _ _ _ h => h
 case hyr8 =>
  refine Or.inl ⟨by rfl, ?_⟩
  intro u hSw
  go_simp
  (try with_reducible rfl)
 (try simp only [Act.put, qd, qe, qf])
 refine' wpAnyH_take (i := 2) (oi := ?oir9) (v := ?vr9) ?hir9 (by kernel_rfl) (by kernel_rfl) (by kernel_rfl) ?hQr9 ?hyr9 hS ?restr9
 case hir9 =>
  simp only [qa, qb, qc]
  exact rfl
 case hQr9 => exact fun _ _ _ h => h
 case hyr9 =>
  refine Or.inl ⟨by rfl, ?_⟩
  intro u hSw
  go_simp
  (try with_reducible rfl)
 (try simp only [Act.put, qd, qe, qf])
 refine' wpAnyH_take (i := 3) (oi := ?oir10) (v := ?vr10) ?hir10 (by kernel_rfl) (by kernel_rfl) (by kernel_rfl) ?hQr10 ?hyr10 hS ?restr10
 case hir10 =>
  simp only [qa, qb, qc]
  exact rfl
 case hQr10 => exact fun _ _ _ h => h
 case hyr10 =>
  refine Or.inl ⟨by rfl, ?_⟩
  intro u hSw
  obtain ⟨ea, eR⟩ := hSw
  have kR0 := eR.cell 0 _ rfl
  have kR1 := eR.cell 1 _ rfl
  have kR2 := eR.cell 2 _ rfl
  have mR := eR.lt
  clear ea eR
  go_simp
  (try with_reducible rfl)
 (try simp only [Act.put, qd, qe, qf])
 refine' wpAnyH_take (i := 4) (oi := ?oir11) (v := ?vr11) ?hir11 (by kernel_rfl) (by kernel_rfl) (by kernel_rfl) ?hQr11 ?hyr11 hS ?restr11
 case hir11 =>
  simp only [qa, qb, qc]
  exact rfl
 case hQr11 => exact fun _ _ _ h => h
 case hyr11 =>
  refine Or.inl ⟨by rfl, ?_⟩
  intro u hSw
  obtain ⟨ea, eR⟩ := hSw
  have ka0 := ea.cell 0 _ rfl
  have ka1 := ea.cell 1 _ rfl
  have ka2 := ea.cell 2 _ rfl
  have ka3 := ea.cell 3 _ rfl
  have ka4 := ea.cell 4 _ rfl
  have ka5 := ea.cell 5 _ rfl
  have ka6 := ea.cell 6 _ rfl
  have ka7 := ea.cell 7 _ rfl
  have ka8 := ea.cell 8 _ rfl
  have ma := ea.lt
  clear ea eR
  go_simp
  (try with_reducible rfl)
 (try simp only [Act.put, qd, qe, qf])
 refine' wpAnyH_take (i := 6) (oi := ?oir12) (v := ?vr12) ?hir12 (by kernel_rfl) (by kernel_rfl) (by kernel_rfl) ?hQr12 ?hyr12 hS ?restr12
 case hir12 =>
  simp only [qa, qb, qc]
  exact rfl
 case hQr12 => exact fun _ _ _ h => h
 case hyr12 =>
  refine Or.inl ⟨by rfl, ?_⟩
  intro u hSw
  go_simp
  (try with_reducible rfl)
 (try simp only [Act.put, qd, qe, qf])
 refine' wpAnyH_take (i := 7) (oi := ?oir13) (v := ?vr13) ?hir13 (by kernel_rfl) (by kernel_rfl) (by kernel_rfl) ?hQr13 ?hyr13 hS ?restr13
 case hir13 =>
  simp only [qa, qb, qc]
  exact rfl
 case hQr13 => exact fun _ _ _ h => h
 case hyr13 =>
  refine Or.inl ⟨by rfl, ?_⟩
  intro u hSw
  obtain ⟨ea, eR⟩ := hSw
  have kR0 := eR.cell 0 _ rfl
  have kR1 := eR.cell 1 _ rfl
  have kR2 := eR.cell 2 _ rfl
  have mR := eR.lt
  clear ea eR
  go_simp
  (try with_reducible rfl)
 (try simp only [Act.put, qd, qe, qf])
 refine wpAnyH_ready (rs := [1]) (by kernel_rfl) (by simp) ?_
 refine' AllReadyH.cons (o := ?oor14) ?hor14 (fun K hK => ?str14) AllReadyH.nil
 case hor14 =>
  simp only [qa, qb, qc]
  exact rfl
 go_simp
 go_at_call 19
 refine (clone_w s (by omega) _).mono ?_
 rintro e w3 ⟨rfl, hb3⟩
 have Da := Da.below hb3
 have R := R.below hb3
 have P := P.below hb3
 clear hb3
 have fa := Da.f9
 have fR := R.f
 clear fa fR
 refine hK.out _ _ ?_ (fun hS => ?_)
 · exact ⟨Da, R.cells⟩
 clear hK K
 (try simp only [Act.put, qd, qe, qf])
 refine wpAnyH_ready (rs := [5]) (by kernel_rfl) (by simp) ?_
 refine' AllReadyH.cons (o := ?oor15) ?hor15 (fun K hK => ?str15) AllReadyH.nil
 case hor15 =>
  simp only [qa, qb, qc]
  exact rfl
 go_simp
 go_at_call 20
 refine (finish_w w.heap.size _ _ n1 x HL.out R.pos _ R.net).mono ?_
 rintro e w4 ⟨rfl, hN, hg⟩
 have Da := grown_at hg Da (fun e2 => by have e3 := Option.some.inj e2; omega)
 have R := R.rows hg (Rx.joinN_length _ _ _) hN
 have P := P.grown hg
 clear hN hg
 have fa := Da.f9
 have fR := R.f
 clear fa fR
 refine hK.out _ _ ?_ (fun hS => ?_)
 · exact ⟨Da, (by have h := R.cells; rw [Rx.joinN_length] at h; exact h)⟩
 clear hK K
 (try simp only [Act.put, qd, qe, qf])
 refine' wpAnyH_take (i := 8) (oi := ?oir16) (v := ?vr16) ?hir16 (by kernel_rfl) (by kernel_rfl) (by kernel_rfl) ?hQr16 ?hyr16 hS ?restr16
 case hir16 =>
  simp only [qa, qb, qc]
  exact rfl
 case hQr16 => exact fun _ _ _ h => h
 case hyr16 =>
  refine Or.inl ⟨by rfl, ?_⟩
  intro u hSw
  go_simp
  (try with_reducible rfl)
 (try simp only [Act.put, qd, qe, qf])
 refine wpAnyH_ready (rs := [9]) (by kernel_rfl) (by simp) ?_
 refine' AllReadyH.cons (o := ?oor17) ?hor17 (fun K hK => ?str17) AllReadyH.nil
 case hor17 =>
  simp only [qa, qb, qc]
  exact rfl
 have fa := Da.f9
 have fR := R.f
 go_simp
 refine hK.out _ _ ?_ (fun hS => ?_)
 ·
  clear fa fR
  have ua1 := Da.lt
  have uG1 := R.lt.2.1
  have Dq : At ((w4).alloc (.cells #[.string s, .int .u64 (word ((seqP x endP).first) 0), .int .u64 (word ((seqP x endP).first) 1), .int .u64 (word ((seqP x endP).first) 2), .int .u64 (word ((seqP x endP).first) 3), rowV g1 n1.length cap1] 58)) (w4.heap.size) [.string s, .int .u64 (word ((seqP x endP).first) 0), .int .u64 (word ((seqP x endP).first) 1), .int .u64 (word ((seqP x endP).first) 2), .int .u64 (word ((seqP x endP).first) 3), rowV g1 n1.length cap1] := by have h := (At.new (w4) #[.string s, .int .u64 (word ((seqP x endP).first) 0), .int .u64 (word ((seqP x endP).first) 1), .int .u64 (word ((seqP x endP).first) 2), .int .u64 (word ((seqP x endP).first) 3), rowV g1 n1.length cap1] 58); simpa using h
  have Da := (Da.alloc (.cells #[.string s, .int .u64 (word ((seqP x endP).first) 0), .int .u64 (word ((seqP x endP).first) 1), .int .u64 (word ((seqP x endP).first) 2), .int .u64 (word ((seqP x endP).first) 3), rowV g1 n1.length cap1] 58))
  have R := (R.alloc (.cells #[.string s, .int .u64 (word ((seqP x endP).first) 0), .int .u64 (word ((seqP x endP).first) 1), .int .u64 (word ((seqP x endP).first) 2), .int .u64 (word ((seqP x endP).first) 3), rowV g1 n1.length cap1] 58))
  have P := (P.alloc (.cells #[.string s, .int .u64 (word ((seqP x endP).first) 0), .int .u64 (word ((seqP x endP).first) 1), .int .u64 (word ((seqP x endP).first) 2), .int .u64 (word ((seqP x endP).first) 3), rowV g1 n1.length cap1] 58))
  exact ⟨Da, (by have h := R.cells; rw [Rx.joinN_length] at h; exact h)⟩
 clear fa fR
 have ua2 := Da.lt
 have uG2 := R.lt.2.1
 have Dq : At ((w4).alloc (.cells #[.string s, .int .u64 (word ((seqP x endP).first) 0), .int .u64 (word ((seqP x endP).first) 1), .int .u64 (word ((seqP x endP).first) 2), .int .u64 (word ((seqP x endP).first) 3), rowV g1 n1.length cap1] 58)) (w4.heap.size) [.string s, .int .u64 (word ((seqP x endP).first) 0), .int .u64 (word ((seqP x endP).first) 1), .int .u64 (word ((seqP x endP).first) 2), .int .u64 (word ((seqP x endP).first) 3), rowV g1 n1.length cap1] := by have h := (At.new (w4) #[.string s, .int .u64 (word ((seqP x endP).first) 0), .int .u64 (word ((seqP x endP).first) 1), .int .u64 (word ((seqP x endP).first) 2), .int .u64 (word ((seqP x endP).first) 3), rowV g1 n1.length cap1] 58); simpa using h
 have Da := (Da.alloc (.cells #[.string s, .int .u64 (word ((seqP x endP).first) 0), .int .u64 (word ((seqP x endP).first) 1), .int .u64 (word ((seqP x endP).first) 2), .int .u64 (word ((seqP x endP).first) 3), rowV g1 n1.length cap1] 58))
 have R := (R.alloc (.cells #[.string s, .int .u64 (word ((seqP x endP).first) 0), .int .u64 (word ((seqP x endP).first) 1), .int .u64 (word ((seqP x endP).first) 2), .int .u64 (word ((seqP x endP).first) 3), rowV g1 n1.length cap1] 58))
 have P := (P.alloc (.cells #[.string s, .int .u64 (word ((seqP x endP).first) 0), .int .u64 (word ((seqP x endP).first) 1), .int .u64 (word ((seqP x endP).first) 2), .int .u64 (word ((seqP x endP).first) 3), rowV g1 n1.length cap1] 58))
 clear hK K
 (try simp only [Act.put, qd, qe, qf])
 refine' wpAnyH_take (i := 10) (oi := ?oir18) (v := ?vr18) ?hir18 (by kernel_rfl) (by kernel_rfl) (by kernel_rfl) ?hQr18 ?hyr18 hS ?restr18
 case hir18 =>
  simp only [qa, qb, qc]
  exact rfl
 case hQr18 => exact fun _ _ _ h => h
 case hyr18 =>
  refine Or.inl ⟨by rfl, ?_⟩
  intro u hSw
  go_simp
  (try with_reducible rfl)
 (try simp only [Act.put, qd, qe, qf])
 refine' wpAnyH_take (i := 11) (oi := ?oir19) (v := ?vr19) ?hir19 (by kernel_rfl) (by kernel_rfl) (by kernel_rfl) ?hQr19 ?hyr19 hS ?restr19
 case hir19 =>
  simp only [qa, qb, qc]
  exact rfl
 case hQr19 => exact fun _ _ _ h => h
 case hyr19 =>
  refine Or.inl ⟨by rfl, ?_⟩
  intro u hSw
  go_simp
  (try with_reducible rfl)
 (try simp only [Act.put, qd, qe, qf])
 refine' wpAnyH_take (i := 12) (oi := ?oir20) (v := ?vr20) ?hir20 (by kernel_rfl) (by kernel_rfl) (by kernel_rfl) ?hQr20 ?hyr20 hS ?restr20
 case hir20 =>
  simp only [qa, qb, qc]
  exact rfl
 case hQr20 => exact fun _ _ _ h => h
 case hyr20 =>
  refine Or.inl ⟨by rfl, ?_⟩
  intro u hSw
  go_simp
  (try with_reducible rfl)
 (try simp only [Act.put, qd, qe, qf])
 refine wpAnyH_done (by kernel_rfl) ?_ _
 clear hS
 have hbw : Below w.heap.size w ((w4).alloc (.cells #[.string s, .int .u64 (word ((seqP x endP).first) 0), .int .u64 (word ((seqP x endP).first) 1), .int .u64 (word ((seqP x endP).first) 2), .int .u64 (word ((seqP x endP).first) 3), rowV g1 n1.length cap1] 58)) := hB1.trans ⟨P.os, P.tape, P.output, P.size, fun i hi => P.block i (by omega) (by omega) (by omega)⟩
 have HB := Lib.hid hbw
 have hN := R.net
 rw [Rx.joinN_length] at hN
 have hout : RxAt w.heap.size (w4.heap.size) s l p ((w4).alloc (.cells #[.string s, .int .u64 (word ((seqP x endP).first) 0), .int .u64 (word ((seqP x endP).first) 1), .int .u64 (word ((seqP x endP).first) 2), .int .u64 (word ((seqP x endP).first) 3), rowV g1 n1.length cap1] 58)) := by
  refine ⟨g1, cap1, HUD.out, ?_, ?_⟩
  ·
   have e1 : Rx.beginN p = (seqP x endP).first := by rw [HX.out]; rfl
   have e2 : (Rx.netN p).length = n1.length := by unfold Rx.netN; rw [Rx.joinN_length, HN.out]
   rw [e1, e2]; exact Dq
  ·
   have e1 : Rx.netN p = Rx.joinN x.last 1 n1 := by unfold Rx.netN; rw [HX.out, HN.out]
   rw [e1, Rx.joinN_length]; exact hN
 have HO := Lib.hid hout
 have hqs := P.size
 simp only [World.size_alloc] at hqs
 clear hbw hout P R hN
 go_wp2
 go_ret3
 exact ⟨HB.out, _, rfl, by omega, HO.out⟩
theorem compile_any (s : ByteArray) (l : List UInt8) (hud : s.data.toList = l) (h1000 : l.length ≤ 1000) (w : World) (hT : Tab w) : Calls Tryd.prog 9 #[.string s] w (CP w s l (Rx.compileF l)) := by
 unfold Rx.compileF
 by_cases hl : 64 < l.length
 ·
  rw [if_pos hl]; exact compile_l s l hud h1000 w hl
 ·
  rw [if_neg hl]
  have hl' : l.length ≤ 64 := by omega
  have ga := Rx.choice_goes (Rx.inner_goes 9) (l := l) (k := 0) (by omega)
  have hw : wholeF l = match Rx.choiceF (Rx.innerF l 9) l 0 with
   | .bad e j => .bad e j
   | .ok p j => if j < l.length then .bad 2 j else .ok p j := rfl
  cases hr : Rx.choiceF (Rx.innerF l 9) l 0 with
  | bad er i =>
   rw [hr] at ga hw
   exact compile_b s l hud w hT hl' er i hw ga.2.2
  | ok p i =>
   rw [hr] at hw
   dsimp only at hw ⊢
   by_cases hlt : i < l.length
   ·
    rw [if_pos hlt] at hw ⊢; exact compile_b s l hud w hT hl' 2 i hw (Or.inl rfl)
   ·
    rw [if_neg hlt] at hw ⊢; exact compile_o s l hud w hT hl' p i hw
end Go.Proofs.YtcfdpbbpdnpnnaaDoor
