/- belfrylaw4.RegexParts: for every three texts the law returns true. -/
import Derived.Test.YtcfdpbbpdnpnnaaDoorLawTimes
namespace Go.Proofs.YtcfdpbbpdnpnnaaDoor
open Go Go.Proofs Go.RowKit Go.Shelf
set_option maxRecDepth 100000
theorem cpx {w w' : World} {s : ByteArray} {l : List UInt8} {r : Rx.Res Rx.Pt} {e : Ending} (h : CP w s l r e w') : Below w.heap.size w w' ∧ ∃ (a : Option Addr) (at_ er : Int), e = .returned (.tuple #[.pointer a, .int .i64 at_, .int .i64 er]) := by
  obtain ⟨hb, h⟩ := h
  cases r with
  | bad er j => exact ⟨hb, none, _, _, h⟩
  | ok p j => obtain ⟨rb, h, _⟩ := h; exact ⟨hb, _, _, _, h⟩
theorem or_ba (p q : ByteArray) (l m : List UInt8) (h : p.data.toList = l) (k : q.data.toList = m) : ((⟨#[40]⟩ : ByteArray) ++ p ++ ⟨#[41, 124, 40]⟩ ++ q ++ ⟨#[41]⟩).data.toList = Rx.par [] l (124 :: Rx.par [] m []) := by rw [ba_app, ba_app, ba_app, ba_app, h, k]; simp [Rx.par]
theorem seq_ba (p q : ByteArray) (l m : List UInt8) (h : p.data.toList = l) (k : q.data.toList = m) : ((⟨#[40]⟩ : ByteArray) ++ p ++ ⟨#[41, 40]⟩ ++ q ++ ⟨#[41]⟩).data.toList = Rx.par [] l (Rx.par [] m []) := by rw [ba_app, ba_app, ba_app, ba_app, h, k]; simp [Rx.par]
theorem or_c (w : World) (hT : Tab w) (p q : ByteArray) (l m : List UInt8) (hp : p.data.toList = l) (hq : q.data.toList = m) (hl : l.length + m.length ≤ 50) (s : ByteArray) (hs : s = (⟨#[40]⟩ : ByteArray) ++ p ++ ⟨#[41, 124, 40]⟩ ++ q ++ ⟨#[41]⟩) : Calls Tryd.prog 9 #[.string s] w (CP w s (Rx.par [] l (124 :: Rx.par [] m [])) (Rx.compileF (Rx.par [] l (124 :: Rx.par [] m [])))) := by
  have e := Rx.par_len [] l (124 :: Rx.par [] m [])
  have e2 := Rx.par_len [] m []
  rw [List.length_cons, e2] at e
  exact compile_any s _ (by rw [hs]; exact or_ba p q l m hp hq) (by rw [e]; simp; omega) w hT
theorem seq_c (w : World) (hT : Tab w) (p q : ByteArray) (l m : List UInt8) (hp : p.data.toList = l) (hq : q.data.toList = m) (hl : l.length + m.length ≤ 50) (s : ByteArray) (hs : s = (⟨#[40]⟩ : ByteArray) ++ p ++ ⟨#[41, 40]⟩ ++ q ++ ⟨#[41]⟩) : Calls Tryd.prog 9 #[.string s] w (CP w s (Rx.par [] l (Rx.par [] m [])) (Rx.compileF (Rx.par [] l (Rx.par [] m [])))) := by
  have e := Rx.par_len [] l (Rx.par [] m [])
  have e2 := Rx.par_len [] m []
  rw [e2] at e
  exact compile_any s _ (by rw [hs]; exact seq_ba p q l m hp hq) (by rw [e]; simp; omega) w hT
set_option maxHeartbeats 8000000 in
theorem parts_p (p q s : ByteArray) (lp lq ls : List UInt8) (hp : p.data.toList = lp) (hq : q.data.toList = lq) (hs : s.data.toList = ls) (w : World) (hT : Tab w) (zp : lp.length < 140737488355328) (zq : lq.length < 140737488355328) (h1 : 50 < lp.length + lq.length) : Calls Tryd.prog 5 #[.string p, .string q, .string s] w fun e w' => e = .returned (.bool true) ∧ Below w.heap.size w w' := by
  have K := Lib.hid (known_any w hT)
  have HT := Lib.hid hT
  have sp : p.size = lp.length := by rw [Lib.size_eq, hp]
  have sq : q.size = lq.length := by rw [Lib.size_eq, hq]
  have ss : s.size = ls.length := by rw [Lib.size_eq, hs]
  have HP := Lib.hid hp
  have HQ := Lib.hid hq
  have HS := Lib.hid hs
  clear hT hp hq hs
  have d1 : decide ((50 : Int) < (lp.length : Int) + (lq.length : Int)) = true := decide_eq_true (by omega)
  have d2 : decide (50 < lp.length + lq.length) = true := decide_eq_true (by omega)
  have d3 : decide ((50 : Int) < (p.size : Int) + (q.size : Int)) = true := decide_eq_true (by omega)
  have d4 : decide (50 < p.size + q.size) = true := decide_eq_true (by omega)
  go_enter Tryd.func5, Tryd.ntmps5
  go_wp2_with fail
  refine K.out.mono ?_
  rintro e w1 ⟨rfl, hb⟩
  have HT := Lib.hid (HT.out.below hb)
  have HB := Lib.hid hb
  clear hb K
  go_wp2
  go_ret
  exact ⟨rfl, HB.out⟩
set_option maxHeartbeats 8000000 in
theorem parts_s (p q s : ByteArray) (lp lq ls : List UInt8) (hp : p.data.toList = lp) (hq : q.data.toList = lq) (hs : s.data.toList = ls) (w : World) (hT : Tab w) (zp : lp.length < 140737488355328) (zq : lq.length < 140737488355328) (h1 : lp.length + lq.length ≤ 50) (h2 : 20 < ls.length) : Calls Tryd.prog 5 #[.string p, .string q, .string s] w fun e w' => e = .returned (.bool true) ∧ Below w.heap.size w w' := by
  have K := Lib.hid (known_any w hT)
  have HT := Lib.hid hT
  have sp : p.size = lp.length := by rw [Lib.size_eq, hp]
  have sq : q.size = lq.length := by rw [Lib.size_eq, hq]
  have ss : s.size = ls.length := by rw [Lib.size_eq, hs]
  have HP := Lib.hid hp
  have HQ := Lib.hid hq
  have HS := Lib.hid hs
  clear hT hp hq hs
  have d1 : decide ((50 : Int) < (lp.length : Int) + (lq.length : Int)) = false := decide_eq_false (by omega)
  have d2 : decide (50 < lp.length + lq.length) = false := decide_eq_false (by omega)
  have d3 : decide ((50 : Int) < (p.size : Int) + (q.size : Int)) = false := decide_eq_false (by omega)
  have d4 : decide (50 < p.size + q.size) = false := decide_eq_false (by omega)
  have g1 : decide ((20 : Int) < (ls.length : Int)) = true := decide_eq_true (by omega)
  have g2 : decide (20 < ls.length) = true := decide_eq_true (by omega)
  have gg1 : decide ((20 : Int) < (s.size : Int)) = true := decide_eq_true (by omega)
  have gg2 : decide (20 < s.size) = true := decide_eq_true (by omega)
  go_enter Tryd.func5, Tryd.ntmps5
  go_wp2_with fail
  refine K.out.mono ?_
  rintro e w1 ⟨rfl, hb⟩
  have HT := Lib.hid (HT.out.below hb)
  have HB := Lib.hid hb
  clear hb K
  go_wp2
  go_ret
  exact ⟨rfl, HB.out⟩
set_option maxHeartbeats 8000000 in
theorem parts_a (p q s : ByteArray) (lp lq ls : List UInt8) (hp : p.data.toList = lp) (hq : q.data.toList = lq) (hs : s.data.toList = ls) (w : World) (hT : Tab w) (zp : lp.length < 140737488355328) (zq : lq.length < 140737488355328) (h1 : lp.length + lq.length ≤ 50) (h2 : ls.length ≤ 20) (er j : Nat) (hHA : Rx.compileF lp = .bad er j) : Calls Tryd.prog 5 #[.string p, .string q, .string s] w fun e w' => e = .returned (.bool true) ∧ Below w.heap.size w w' := by
  have K := Lib.hid (known_any w hT)
  have HT := Lib.hid hT
  have sp : p.size = lp.length := by rw [Lib.size_eq, hp]
  have sq : q.size = lq.length := by rw [Lib.size_eq, hq]
  have ss : s.size = ls.length := by rw [Lib.size_eq, hs]
  have HP := Lib.hid hp
  have HQ := Lib.hid hq
  have HS := Lib.hid hs
  clear hT hp hq hs
  have d1 : decide ((50 : Int) < (lp.length : Int) + (lq.length : Int)) = false := decide_eq_false (by omega)
  have d2 : decide (50 < lp.length + lq.length) = false := decide_eq_false (by omega)
  have d3 : decide ((50 : Int) < (p.size : Int) + (q.size : Int)) = false := decide_eq_false (by omega)
  have d4 : decide (50 < p.size + q.size) = false := decide_eq_false (by omega)
  have g1 : decide ((20 : Int) < (ls.length : Int)) = false := decide_eq_false (by omega)
  have g2 : decide (20 < ls.length) = false := decide_eq_false (by omega)
  have gg1 : decide ((20 : Int) < (s.size : Int)) = false := decide_eq_false (by omega)
  have gg2 : decide (20 < s.size) = false := decide_eq_false (by omega)
  have HA := Lib.hid (fun W => alone_any _ lp HP.out W)
  rw [hHA] at HA
  have eHA : isBad (.bad er j) = true := rfl
  rw [eHA] at HA
  clear eHA
  go_enter Tryd.func5, Tryd.ntmps5
  go_wp2_with fail
  refine K.out.mono ?_
  rintro e w1 ⟨rfl, hb⟩
  have HT := Lib.hid (HT.out.below hb)
  have HB := Lib.hid hb
  clear hb K
  go_wp2_with fail
  refine (HA.out _).mono ?_
  rintro e w2 ⟨rfl, hb⟩
  have HT := Lib.hid (HT.out.below hb)
  have HB := Lib.hid (HB.out.trans (hb.mono HB.out.size))
  clear hb HA
  go_wp2
  go_ret
  exact ⟨rfl, HB.out⟩
set_option maxHeartbeats 8000000 in
theorem parts_b (p q s : ByteArray) (lp lq ls : List UInt8) (hp : p.data.toList = lp) (hq : q.data.toList = lq) (hs : s.data.toList = ls) (w : World) (hT : Tab w) (zp : lp.length < 140737488355328) (zq : lq.length < 140737488355328) (h1 : lp.length + lq.length ≤ 50) (h2 : ls.length ≤ 20) (P : Rx.Pt) (z : Nat) (hHA : Rx.compileF lp = .ok P z) (er j : Nat) (hHE : Rx.compileF lq = .bad er j) : Calls Tryd.prog 5 #[.string p, .string q, .string s] w fun e w' => e = .returned (.bool true) ∧ Below w.heap.size w w' := by
  have K := Lib.hid (known_any w hT)
  have HT := Lib.hid hT
  have sp : p.size = lp.length := by rw [Lib.size_eq, hp]
  have sq : q.size = lq.length := by rw [Lib.size_eq, hq]
  have ss : s.size = ls.length := by rw [Lib.size_eq, hs]
  have HP := Lib.hid hp
  have HQ := Lib.hid hq
  have HS := Lib.hid hs
  clear hT hp hq hs
  have d1 : decide ((50 : Int) < (lp.length : Int) + (lq.length : Int)) = false := decide_eq_false (by omega)
  have d2 : decide (50 < lp.length + lq.length) = false := decide_eq_false (by omega)
  have d3 : decide ((50 : Int) < (p.size : Int) + (q.size : Int)) = false := decide_eq_false (by omega)
  have d4 : decide (50 < p.size + q.size) = false := decide_eq_false (by omega)
  have g1 : decide ((20 : Int) < (ls.length : Int)) = false := decide_eq_false (by omega)
  have g2 : decide (20 < ls.length) = false := decide_eq_false (by omega)
  have gg1 : decide ((20 : Int) < (s.size : Int)) = false := decide_eq_false (by omega)
  have gg2 : decide (20 < s.size) = false := decide_eq_false (by omega)
  have HA := Lib.hid (fun W => alone_any _ lp HP.out W)
  rw [hHA] at HA
  have eHA : isBad (.ok P z) = false := rfl
  rw [eHA] at HA
  clear eHA
  have HE := Lib.hid (fun W => alone_any _ lq HQ.out W)
  rw [hHE] at HE
  have eHE : isBad (.bad er j) = true := rfl
  rw [eHE] at HE
  clear eHE
  go_enter Tryd.func5, Tryd.ntmps5
  go_wp2_with fail
  refine K.out.mono ?_
  rintro e w1 ⟨rfl, hb⟩
  have HT := Lib.hid (HT.out.below hb)
  have HB := Lib.hid hb
  clear hb K
  go_wp2_with fail
  refine (HA.out _).mono ?_
  rintro e w2 ⟨rfl, hb⟩
  have HT := Lib.hid (HT.out.below hb)
  have HB := Lib.hid (HB.out.trans (hb.mono HB.out.size))
  clear hb HA
  go_wp2_with fail
  refine (HE.out _).mono ?_
  rintro e w3 ⟨rfl, hb⟩
  have HT := Lib.hid (HT.out.below hb)
  have HB := Lib.hid (HB.out.trans (hb.mono HB.out.size))
  clear hb HE
  go_wp2
  go_ret
  exact ⟨rfl, HB.out⟩
set_option maxHeartbeats 8000000 in
theorem parts_c (p q s : ByteArray) (lp lq ls : List UInt8) (hp : p.data.toList = lp) (hq : q.data.toList = lq) (hs : s.data.toList = ls) (w : World) (hT : Tab w) (zp : lp.length < 140737488355328) (zq : lq.length < 140737488355328) (h1 : lp.length + lq.length ≤ 50) (h2 : ls.length ≤ 20) (P : Rx.Pt) (z : Nat) (hHA : Rx.compileF lp = .ok P z) (Q : Rx.Pt) (y : Nat) (hHE : Rx.compileF lq = .ok Q y) (er j : Nat) (hC : Rx.compileF (Rx.par [] lp []) = .bad er j) : Calls Tryd.prog 5 #[.string p, .string q, .string s] w fun e w' => e = .returned (.bool true) ∧ Below w.heap.size w w' := by
  have K := Lib.hid (known_any w hT)
  have HT := Lib.hid hT
  have sp : p.size = lp.length := by rw [Lib.size_eq, hp]
  have sq : q.size = lq.length := by rw [Lib.size_eq, hq]
  have ss : s.size = ls.length := by rw [Lib.size_eq, hs]
  have HP := Lib.hid hp
  have HQ := Lib.hid hq
  have HS := Lib.hid hs
  clear hT hp hq hs
  have d1 : decide ((50 : Int) < (lp.length : Int) + (lq.length : Int)) = false := decide_eq_false (by omega)
  have d2 : decide (50 < lp.length + lq.length) = false := decide_eq_false (by omega)
  have d3 : decide ((50 : Int) < (p.size : Int) + (q.size : Int)) = false := decide_eq_false (by omega)
  have d4 : decide (50 < p.size + q.size) = false := decide_eq_false (by omega)
  have g1 : decide ((20 : Int) < (ls.length : Int)) = false := decide_eq_false (by omega)
  have g2 : decide (20 < ls.length) = false := decide_eq_false (by omega)
  have gg1 : decide ((20 : Int) < (s.size : Int)) = false := decide_eq_false (by omega)
  have gg2 : decide (20 < s.size) = false := decide_eq_false (by omega)
  have HA := Lib.hid (fun W => alone_any _ lp HP.out W)
  rw [hHA] at HA
  have eHA : isBad (.ok P z) = false := rfl
  rw [eHA] at HA
  clear eHA
  have HE := Lib.hid (fun W => alone_any _ lq HQ.out W)
  rw [hHE] at HE
  have eHE : isBad (.ok Q y) = false := rfl
  rw [eHE] at HE
  clear eHE
  have HC := Lib.hid (fun W h => seven W h p lp [] HP.out (by omega) (by simp))
  rw [hC] at HC
  have ne := comp_ne hC
  clear hHA hHE hC
  have HD := Lib.hid (fun W h => seven W h q lq [] HQ.out (by omega) (by simp))
  go_enter Tryd.func5, Tryd.ntmps5
  go_wp2_with fail
  refine K.out.mono ?_
  rintro e w1 ⟨rfl, hb⟩
  have HT := Lib.hid (HT.out.below hb)
  have HB := Lib.hid hb
  clear hb K
  go_wp2_with fail
  refine (HA.out _).mono ?_
  rintro e w2 ⟨rfl, hb⟩
  have HT := Lib.hid (HT.out.below hb)
  have HB := Lib.hid (HB.out.trans (hb.mono HB.out.size))
  clear hb HA
  go_wp2_with fail
  refine (HE.out _).mono ?_
  rintro e w3 ⟨rfl, hb⟩
  have HT := Lib.hid (HT.out.below hb)
  have HB := Lib.hid (HB.out.trans (hb.mono HB.out.size))
  clear hb HE
  go_wp2_with fail
  refine (HC.out _ HT.out _ rfl).mono ?_
  rintro e w4 ⟨hb, rfl⟩
  have HT := Lib.hid (HT.out.below hb)
  have HB := Lib.hid (HB.out.trans (hb.mono HB.out.size))
  clear hb
  go_wp2_with fail
  refine (HD.out _ HT.out _ rfl).mono ?_
  intro e w5 hcp
  obtain ⟨hb, a5, at5, er5, rfl⟩ := cpx hcp
  have HB := Lib.hid (HB.out.trans (hb.mono HB.out.size))
  clear hb hcp
  go_wp2
  go_ret
  exact ⟨rfl, HB.out⟩
set_option maxHeartbeats 8000000 in
theorem parts_d (p q s : ByteArray) (lp lq ls : List UInt8) (hp : p.data.toList = lp) (hq : q.data.toList = lq) (hs : s.data.toList = ls) (w : World) (hT : Tab w) (zp : lp.length < 140737488355328) (zq : lq.length < 140737488355328) (h1 : lp.length + lq.length ≤ 50) (h2 : ls.length ≤ 20) (P : Rx.Pt) (z : Nat) (hHA : Rx.compileF lp = .ok P z) (Q : Rx.Pt) (y : Nat) (hHE : Rx.compileF lq = .ok Q y) (Q1 : Rx.Pt) (y1 : Nat) (hC : Rx.compileF (Rx.par [] lp []) = .ok Q1 y1) (er j : Nat) (hD : Rx.compileF (Rx.par [] lq []) = .bad er j) : Calls Tryd.prog 5 #[.string p, .string q, .string s] w fun e w' => e = .returned (.bool true) ∧ Below w.heap.size w w' := by
  have K := Lib.hid (known_any w hT)
  have HT := Lib.hid hT
  have sp : p.size = lp.length := by rw [Lib.size_eq, hp]
  have sq : q.size = lq.length := by rw [Lib.size_eq, hq]
  have ss : s.size = ls.length := by rw [Lib.size_eq, hs]
  have HP := Lib.hid hp
  have HQ := Lib.hid hq
  have HS := Lib.hid hs
  clear hT hp hq hs
  have d1 : decide ((50 : Int) < (lp.length : Int) + (lq.length : Int)) = false := decide_eq_false (by omega)
  have d2 : decide (50 < lp.length + lq.length) = false := decide_eq_false (by omega)
  have d3 : decide ((50 : Int) < (p.size : Int) + (q.size : Int)) = false := decide_eq_false (by omega)
  have d4 : decide (50 < p.size + q.size) = false := decide_eq_false (by omega)
  have g1 : decide ((20 : Int) < (ls.length : Int)) = false := decide_eq_false (by omega)
  have g2 : decide (20 < ls.length) = false := decide_eq_false (by omega)
  have gg1 : decide ((20 : Int) < (s.size : Int)) = false := decide_eq_false (by omega)
  have gg2 : decide (20 < s.size) = false := decide_eq_false (by omega)
  have HA := Lib.hid (fun W => alone_any _ lp HP.out W)
  rw [hHA] at HA
  have eHA : isBad (.ok P z) = false := rfl
  rw [eHA] at HA
  clear eHA
  have HE := Lib.hid (fun W => alone_any _ lq HQ.out W)
  rw [hHE] at HE
  have eHE : isBad (.ok Q y) = false := rfl
  rw [eHE] at HE
  clear eHE
  have HC := Lib.hid (fun W h => seven W h p lp [] HP.out (by omega) (by simp))
  rw [hC] at HC
  have HD := Lib.hid (fun W h => seven W h q lq [] HQ.out (by omega) (by simp))
  rw [hD] at HD
  have ne := comp_ne hD
  clear hHA hHE hC hD
  go_enter Tryd.func5, Tryd.ntmps5
  go_wp2_with fail
  refine K.out.mono ?_
  rintro e w1 ⟨rfl, hb⟩
  have HT := Lib.hid (HT.out.below hb)
  have HB := Lib.hid hb
  clear hb K
  go_wp2_with fail
  refine (HA.out _).mono ?_
  rintro e w2 ⟨rfl, hb⟩
  have HT := Lib.hid (HT.out.below hb)
  have HB := Lib.hid (HB.out.trans (hb.mono HB.out.size))
  clear hb HA
  go_wp2_with fail
  refine (HE.out _).mono ?_
  rintro e w3 ⟨rfl, hb⟩
  have HT := Lib.hid (HT.out.below hb)
  have HB := Lib.hid (HB.out.trans (hb.mono HB.out.size))
  clear hb HE
  go_wp2_with fail
  refine (HC.out _ HT.out _ rfl).mono ?_
  rintro e w4 ⟨hb, ra, rfl, hga, hX⟩
  have HT := Lib.hid (HT.out.below hb)
  have Ha := Lib.hid hX
  have HB := Lib.hid (HB.out.trans (hb.mono HB.out.size))
  clear hb hX hga
  go_wp2_with fail
  refine (HD.out _ HT.out _ rfl).mono ?_
  rintro e w5 ⟨hb, rfl⟩
  have HB := Lib.hid (HB.out.trans (hb.mono HB.out.size))
  clear hb
  go_wp2
  go_ret
  exact ⟨rfl, HB.out⟩
theorem ext_take (s : ByteArray) (k : Nat) : (s.extract 0 k).data.toList = s.data.toList.take k := by simp [List.extract_eq_take_drop]
theorem ext_drop (s : ByteArray) (k : Nat) : (s.extract k s.size).data.toList = s.data.toList.drop k := by
  simp [List.extract_eq_take_drop]; rw [List.take_of_length_le (by simp)]
set_option maxHeartbeats 8000000 in
theorem parts_f (p q s : ByteArray) (lp lq ls : List UInt8) (hp : p.data.toList = lp) (hq : q.data.toList = lq) (hs : s.data.toList = ls) (w : World) (hT : Tab w) (zp : lp.length < 140737488355328) (zq : lq.length < 140737488355328) (h1 : lp.length + lq.length ≤ 50) (h2 : ls.length ≤ 20) (P : Rx.Pt) (z : Nat) (hHA : Rx.compileF lp = .ok P z) (Q : Rx.Pt) (y : Nat) (hHE : Rx.compileF lq = .ok Q y) (hp1 : Rx.Par lp P) (hlp : Rx.leaves P ≤ 60) (hq1 : Rx.Par lq Q) (hlq : Rx.leaves Q ≤ 60) : Calls Tryd.prog 5 #[.string p, .string q, .string s] w fun e w' => e = .returned (.bool true) ∧ Below w.heap.size w w' := by
  have K := Lib.hid (known_any w hT)
  have HT := Lib.hid hT
  have sp : p.size = lp.length := by rw [Lib.size_eq, hp]
  have sq : q.size = lq.length := by rw [Lib.size_eq, hq]
  have ss : s.size = ls.length := by rw [Lib.size_eq, hs]
  have HP := Lib.hid hp
  have HQ := Lib.hid hq
  have HS := Lib.hid hs
  clear hT hp hq hs
  have d1 : decide ((50 : Int) < (lp.length : Int) + (lq.length : Int)) = false := decide_eq_false (by omega)
  have d2 : decide (50 < lp.length + lq.length) = false := decide_eq_false (by omega)
  have d3 : decide ((50 : Int) < (p.size : Int) + (q.size : Int)) = false := decide_eq_false (by omega)
  have d4 : decide (50 < p.size + q.size) = false := decide_eq_false (by omega)
  have g1 : decide ((20 : Int) < (ls.length : Int)) = false := decide_eq_false (by omega)
  have g2 : decide (20 < ls.length) = false := decide_eq_false (by omega)
  have gg1 : decide ((20 : Int) < (s.size : Int)) = false := decide_eq_false (by omega)
  have gg2 : decide (20 < s.size) = false := decide_eq_false (by omega)
  have HA := Lib.hid (fun W => alone_any _ lp HP.out W)
  rw [hHA] at HA
  have eHA : isBad (.ok P z) = false := rfl
  rw [eHA] at HA
  clear eHA
  have HE := Lib.hid (fun W => alone_any _ lq HQ.out W)
  rw [hHE] at HE
  have eHE : isBad (.ok Q y) = false := rfl
  rw [eHE] at HE
  clear eHE
  have HC := Lib.hid (fun W h => seven W h p lp [] HP.out (by omega) (by simp))
  have HD := Lib.hid (fun W h => seven W h q lq [] HQ.out (by omega) (by simp))
  have HF := Lib.hid (fun W h => or_c W h p q lp lq HP.out HQ.out h1)
  have HG := Lib.hid (fun W h => seq_c W h p q lp lq HP.out HQ.out h1)
  have HI := Lib.hid (fun W h => seven W h p lp [63] HP.out (by omega) (by simp))
  rw [Rx.comp_par hp1 (by omega)] at HC
  rw [Rx.comp_par hq1 (by omega)] at HD
  rw [Rx.comp_or hp1 hq1 h1] at HF
  rw [Rx.comp_seq hp1 hq1 h1] at HG
  rw [Rx.comp_opt hp1 (by omega)] at HI
  have ls2 : ls.length ≤ 1000 := by omega
  have MX := Lib.hid (Rx.match_or (u := ls) hlp hlq)
  have MY := Lib.hid (Rx.match_seq (u := ls) hlp hlq)
  have MZ := Lib.hid (Rx.match_opt (u := ls) hlp)
  clear hHA hHE hp1 hq1 hlp hlq
  go_enter Tryd.func5, Tryd.ntmps5
  go_wp2_with fail
  refine K.out.mono ?_
  rintro e w1 ⟨rfl, hb⟩
  have HT := Lib.hid (HT.out.below hb)
  have HB := Lib.hid hb
  clear hb K
  go_wp2_with fail
  refine (HA.out _).mono ?_
  rintro e w2 ⟨rfl, hb⟩
  have HT := Lib.hid (HT.out.below hb)
  have HB := Lib.hid (HB.out.trans (hb.mono HB.out.size))
  clear hb HA
  go_wp2_with fail
  refine (HE.out _).mono ?_
  rintro e w3 ⟨rfl, hb⟩
  have HT := Lib.hid (HT.out.below hb)
  have HB := Lib.hid (HB.out.trans (hb.mono HB.out.size))
  clear hb HE
  go_wp2_with fail
  refine (HC.out _ HT.out _ rfl).mono ?_
  rintro e w4 ⟨hb, ra, rfl, hga, hX⟩
  have HT := Lib.hid (HT.out.below hb)
  have Ha := Lib.hid hX
  have HB := Lib.hid (HB.out.trans (hb.mono HB.out.size))
  clear hb hX hga
  go_wp2_with fail
  refine (HD.out _ HT.out _ rfl).mono ?_
  rintro e w5 ⟨hb, rb, rfl, hgb, hX⟩
  have HT := Lib.hid (HT.out.below hb)
  have Ha := Lib.hid (Ha.out.below hb)
  have Hb := Lib.hid hX
  have HB := Lib.hid (HB.out.trans (hb.mono HB.out.size))
  clear hb hX hgb
  go_wp2_with fail
  refine (HF.out _ HT.out _ rfl).mono ?_
  rintro e w6 ⟨hb, rx, rfl, hgx, hX⟩
  have HT := Lib.hid (HT.out.below hb)
  have Ha := Lib.hid (Ha.out.below hb)
  have Hb := Lib.hid (Hb.out.below hb)
  have Hx := Lib.hid hX
  have HB := Lib.hid (HB.out.trans (hb.mono HB.out.size))
  clear hb hX hgx
  go_wp2_with fail
  refine (HG.out _ HT.out _ rfl).mono ?_
  rintro e w7 ⟨hb, ry, rfl, hgy, hX⟩
  have HT := Lib.hid (HT.out.below hb)
  have Ha := Lib.hid (Ha.out.below hb)
  have Hb := Lib.hid (Hb.out.below hb)
  have Hx := Lib.hid (Hx.out.below hb)
  have Hy := Lib.hid hX
  have HB := Lib.hid (HB.out.trans (hb.mono HB.out.size))
  clear hb hX hgy
  go_wp2_with fail
  refine (HI.out _ HT.out _ rfl).mono ?_
  rintro e w8 ⟨hb, rz, rfl, hgz, hX⟩
  have HT := Lib.hid (HT.out.below hb)
  have Ha := Lib.hid (Ha.out.below hb)
  have Hb := Lib.hid (Hb.out.below hb)
  have Hx := Lib.hid (Hx.out.below hb)
  have Hy := Lib.hid (Hy.out.below hb)
  have Hz := Lib.hid hX
  have HB := Lib.hid (HB.out.trans (hb.mono HB.out.size))
  clear hb hX hgz
  go_wp2_with fail
  obtain ⟨W0, hW0⟩ : ∃ W0, W0 = w8 := ⟨w8, rfl⟩
  have HW := Lib.hid hW0
  have hB8 : Below w8.heap.size W0 w8 := by rw [hW0]; exact Below.refl _ _
  go_loopw [22, 23] (fun t i wr => ∃ k : Nat, k ≤ ls.length + 1 ∧ t = .bool (Rx.bothF (Rx.wrap1 P) (Rx.wrap1 Q) ls k) ∧ i = .int .i64 k ∧ Below w8.heap.size w8 wr) (fun _ i _ => ls.length + 1 - (intOf i).toNat)
  case atStart => exact ⟨0, Nat.zero_le _, rfl, rfl, Below.refl _ _⟩
  case round =>
    clear hB8 hW0
    obtain ⟨k, hk, rfl, rfl, hb⟩ := hrel
    by_cases hlt : k ≤ ls.length
    · have hl1 : decide ((k : Int) ≤ (ls.length : Int)) = true := decide_eq_true (by omega)
      have hl2 : decide (k ≤ ls.length) = true := decide_eq_true hlt
      have hl3 : decide ((k : Int) ≤ (s.size : Int)) = true := decide_eq_true (by omega)
      have hl4 : decide (k ≤ s.size) = true := decide_eq_true (by omega)
      have HK := Lib.hid hb
      have Ha := Lib.hid (Ha.out.below hb)
      have Hb := Lib.hid (Hb.out.below hb)
      have tk : (ls.take k).length ≤ 1000 := by rw [List.length_take]; omega
      have dk : (ls.drop k).length ≤ 1000 := by rw [List.length_drop]; omega
      have ST : Hid ((s.extract 0 k).data.toList = ls.take k) := by rw [← HS.out]; exact ext_take s k
      have SD : Hid ((s.extract k ls.length).data.toList = ls.drop k) := by rw [← ss, ← HS.out]; exact ext_drop s k
      have bo : Rx.bothF (Rx.wrap1 P) (Rx.wrap1 Q) ls (k + 1) = (Rx.bothF (Rx.wrap1 P) (Rx.wrap1 Q) ls k || (Rx.matchN (Rx.wrap1 P) (ls.take k) && Rx.matchN (Rx.wrap1 Q) (ls.drop k))) := rfl
      have BO := Lib.hid bo
      clear hb bo
      generalize hbb : Rx.bothF (Rx.wrap1 P) (Rx.wrap1 Q) ls k = bb at *
      clear hbb
      cases bb with
      | true =>
        rw [Bool.true_or] at BO
        go_wp2
        go_round
        case rel => exact ⟨k + 1, by omega, by rw [BO.out], by go_num, HK.out⟩
        case measure => simp [intOf]; omega
      | false =>
        cases hma : Rx.matchN (Rx.wrap1 P) (ls.take k) with
        | false =>
          rw [hma, Bool.false_or, Bool.false_and] at BO
          have MA := Lib.hid hma
          clear hma
          go_wp2_with fail
          refine (match_c _ ra _ _ _ _ Ha.out (ls.take k) tk false MA.out _ ST.out).mono ?_
          rintro e v1 ⟨rfl, hb⟩
          have Ha := Lib.hid (Ha.out.below hb)
          have Hb := Lib.hid (Hb.out.below hb)
          have HK := Lib.hid (HK.out.trans (hb.mono HK.out.size))
          clear hb
          go_wp2
          go_round
          case rel => exact ⟨k + 1, by omega, by rw [BO.out], by go_num, HK.out⟩
          case measure => simp [intOf]; omega
        | true =>
          rw [hma, Bool.false_or, Bool.true_and] at BO
          have MA := Lib.hid hma
          clear hma
          cases hmb : Rx.matchN (Rx.wrap1 Q) (ls.drop k) with
          | false =>
            rw [hmb] at BO
            have MB := Lib.hid hmb
            clear hmb
            go_wp2_with fail
            refine (match_c _ ra _ _ _ _ Ha.out (ls.take k) tk true MA.out _ ST.out).mono ?_
            rintro e v1 ⟨rfl, hb⟩
            have Ha := Lib.hid (Ha.out.below hb)
            have Hb := Lib.hid (Hb.out.below hb)
            have HK := Lib.hid (HK.out.trans (hb.mono HK.out.size))
            clear hb
            go_wp2_with fail
            refine (match_c _ rb _ _ _ _ Hb.out (ls.drop k) dk false MB.out _ SD.out).mono ?_
            rintro e v2 ⟨rfl, hb⟩
            have Ha := Lib.hid (Ha.out.below hb)
            have Hb := Lib.hid (Hb.out.below hb)
            have HK := Lib.hid (HK.out.trans (hb.mono HK.out.size))
            clear hb
            go_wp2
            go_round
            case rel => exact ⟨k + 1, by omega, by rw [BO.out], by go_num, HK.out⟩
            case measure => simp [intOf]; omega
          | true =>
            rw [hmb] at BO
            have MB := Lib.hid hmb
            clear hmb
            go_wp2_with fail
            refine (match_c _ ra _ _ _ _ Ha.out (ls.take k) tk true MA.out _ ST.out).mono ?_
            rintro e v1 ⟨rfl, hb⟩
            have Ha := Lib.hid (Ha.out.below hb)
            have Hb := Lib.hid (Hb.out.below hb)
            have HK := Lib.hid (HK.out.trans (hb.mono HK.out.size))
            clear hb
            go_wp2_with fail
            refine (match_c _ rb _ _ _ _ Hb.out (ls.drop k) dk true MB.out _ SD.out).mono ?_
            rintro e v2 ⟨rfl, hb⟩
            have Ha := Lib.hid (Ha.out.below hb)
            have Hb := Lib.hid (Hb.out.below hb)
            have HK := Lib.hid (HK.out.trans (hb.mono HK.out.size))
            clear hb
            go_wp2
            go_round
            case rel => exact ⟨k + 1, by omega, by rw [BO.out], by go_num, HK.out⟩
            case measure => simp [intOf]; omega
    · have hl1 : decide ((k : Int) ≤ (ls.length : Int)) = false := decide_eq_false (by omega)
      have hl2 : decide (k ≤ ls.length) = false := decide_eq_false hlt
      have hl3 : decide ((k : Int) ≤ (s.size : Int)) = false := decide_eq_false (by omega)
      have hl4 : decide (k ≤ s.size) = false := decide_eq_false (by omega)
      obtain rfl : k = ls.length + 1 := by omega
      have HB := Lib.hid (HB.out.trans (hb.mono HB.out.size))
      have Ha := Lib.hid (Ha.out.below hb)
      have Hb := Lib.hid (Hb.out.below hb)
      have Hx := Lib.hid (Hx.out.below hb)
      have Hy := Lib.hid (Hy.out.below hb)
      have Hz := Lib.hid (Hz.out.below hb)
      clear hb
      obtain ⟨my, hmy⟩ : ∃ my, Rx.matchN (.alt .nil (.seq (.seq .eps P) Q)) ls = my := ⟨_, rfl⟩
      have mz := MZ.out
      have mx := MX.out
      have my2 := MY.out
      rw [← my2, hmy]
      have MY := Lib.hid hmy
      clear my2 hmy
      by_cases hem : ls = []
      · have e0 : (ls == []) = true := by rw [hem]; rfl
        have e1 : s.toList = [] := by rw [ByteArray.toList_eq, HS.out, hem]
        have e2 : s.toList.isEmpty = true := by rw [e1]; rfl
        have e4 : s.size = 0 := by rw [ss, hem]; rfl
        have E := Lib.hid hem
        clear hem
        cases ha : Rx.matchN (Rx.wrap1 P) ls with
        | true =>
          have MA := Lib.hid ha
          rw [ha] at mx mz
          rw [Bool.true_or] at mx
          rw [e0, Bool.true_or] at mz
          have MX := Lib.hid mx
          have MZ := Lib.hid mz
          clear ha mx mz
          have qy : (my == my) = true := beq_self_eq_true _
          go_wp2_with fail
          refine (match_c _ rx _ _ _ _ Hx.out ls ls2 true MX.out _ HS.out).mono ?_
          rintro e u1 ⟨rfl, hb⟩
          have Ha := Lib.hid (Ha.out.below hb)
          have Hb := Lib.hid (Hb.out.below hb)
          have Hy := Lib.hid (Hy.out.below hb)
          have Hz := Lib.hid (Hz.out.below hb)
          have HB := Lib.hid (HB.out.trans (hb.mono HB.out.size))
          clear hb
          go_wp2_with fail
          refine (match_c _ ra _ _ _ _ Ha.out ls ls2 true MA.out _ HS.out).mono ?_
          rintro e u2 ⟨rfl, hb⟩
          have Ha := Lib.hid (Ha.out.below hb)
          have Hb := Lib.hid (Hb.out.below hb)
          have Hy := Lib.hid (Hy.out.below hb)
          have Hz := Lib.hid (Hz.out.below hb)
          have HB := Lib.hid (HB.out.trans (hb.mono HB.out.size))
          clear hb
          go_wp2_with fail
          refine (match_c _ ry _ _ _ _ Hy.out ls ls2 my MY.out _ HS.out).mono ?_
          rintro e u4 ⟨rfl, hb⟩
          have Ha := Lib.hid (Ha.out.below hb)
          have Hz := Lib.hid (Hz.out.below hb)
          have HB := Lib.hid (HB.out.trans (hb.mono HB.out.size))
          clear hb
          go_wp2_with fail
          refine (match_c _ rz _ _ _ _ Hz.out ls ls2 true MZ.out _ HS.out).mono ?_
          rintro e u5 ⟨rfl, hb⟩
          have Ha := Lib.hid (Ha.out.below hb)
          have HB := Lib.hid (HB.out.trans (hb.mono HB.out.size))
          clear hb
          go_wp2
          go_ret
          exact ⟨by first | rfl | simp, HB.out⟩
        | false =>
          have MA := Lib.hid ha
          obtain ⟨mb, hmb⟩ : ∃ mb, Rx.matchN (Rx.wrap1 Q) ls = mb := ⟨_, rfl⟩
          rw [hmb] at mx
          have MB := Lib.hid hmb
          clear hmb
          rw [ha] at mx mz
          rw [Bool.false_or] at mx
          rw [e0, Bool.true_or] at mz
          have MX := Lib.hid mx
          have MZ := Lib.hid mz
          clear ha mx mz
          have qy : (my == my) = true := beq_self_eq_true _
          have qb : (mb == mb) = true := beq_self_eq_true _
          go_wp2_with fail
          refine (match_c _ rx _ _ _ _ Hx.out ls ls2 mb MX.out _ HS.out).mono ?_
          rintro e u1 ⟨rfl, hb⟩
          have Ha := Lib.hid (Ha.out.below hb)
          have Hb := Lib.hid (Hb.out.below hb)
          have Hy := Lib.hid (Hy.out.below hb)
          have Hz := Lib.hid (Hz.out.below hb)
          have HB := Lib.hid (HB.out.trans (hb.mono HB.out.size))
          clear hb
          go_wp2_with fail
          refine (match_c _ ra _ _ _ _ Ha.out ls ls2 false MA.out _ HS.out).mono ?_
          rintro e u2 ⟨rfl, hb⟩
          have Ha := Lib.hid (Ha.out.below hb)
          have Hb := Lib.hid (Hb.out.below hb)
          have Hy := Lib.hid (Hy.out.below hb)
          have Hz := Lib.hid (Hz.out.below hb)
          have HB := Lib.hid (HB.out.trans (hb.mono HB.out.size))
          clear hb
          go_wp2_with fail
          refine (match_c _ rb _ _ _ _ Hb.out ls ls2 mb MB.out _ HS.out).mono ?_
          rintro e u3 ⟨rfl, hb⟩
          have Ha := Lib.hid (Ha.out.below hb)
          have Hy := Lib.hid (Hy.out.below hb)
          have Hz := Lib.hid (Hz.out.below hb)
          have HB := Lib.hid (HB.out.trans (hb.mono HB.out.size))
          clear hb
          go_wp2_with fail
          refine (match_c _ ry _ _ _ _ Hy.out ls ls2 my MY.out _ HS.out).mono ?_
          rintro e u4 ⟨rfl, hb⟩
          have Ha := Lib.hid (Ha.out.below hb)
          have Hz := Lib.hid (Hz.out.below hb)
          have HB := Lib.hid (HB.out.trans (hb.mono HB.out.size))
          clear hb
          go_wp2_with fail
          refine (match_c _ rz _ _ _ _ Hz.out ls ls2 true MZ.out _ HS.out).mono ?_
          rintro e u5 ⟨rfl, hb⟩
          have Ha := Lib.hid (Ha.out.below hb)
          have HB := Lib.hid (HB.out.trans (hb.mono HB.out.size))
          clear hb
          go_wp2
          go_ret
          exact ⟨by first | rfl | simp, HB.out⟩
      · have e0 : (ls == []) = false := by rw [beq_eq_false_iff_ne]; exact hem
        have e1 : ¬ s.toList = [] := by rw [ByteArray.toList_eq, HS.out]; exact hem
        have e2 : s.toList.isEmpty = false := by cases hq : s.toList with | nil => exact (e1 hq).elim | cons a b => rfl
        have E := Lib.hid hem
        clear hem
        cases ha : Rx.matchN (Rx.wrap1 P) ls with
        | true =>
          have MA := Lib.hid ha
          rw [ha] at mx mz
          rw [Bool.true_or] at mx
          rw [e0, Bool.false_or] at mz
          have MX := Lib.hid mx
          have MZ := Lib.hid mz
          clear ha mx mz
          have qy : (my == my) = true := beq_self_eq_true _
          go_wp2_with fail
          refine (match_c _ rx _ _ _ _ Hx.out ls ls2 true MX.out _ HS.out).mono ?_
          rintro e u1 ⟨rfl, hb⟩
          have Ha := Lib.hid (Ha.out.below hb)
          have Hb := Lib.hid (Hb.out.below hb)
          have Hy := Lib.hid (Hy.out.below hb)
          have Hz := Lib.hid (Hz.out.below hb)
          have HB := Lib.hid (HB.out.trans (hb.mono HB.out.size))
          clear hb
          go_wp2_with fail
          refine (match_c _ ra _ _ _ _ Ha.out ls ls2 true MA.out _ HS.out).mono ?_
          rintro e u2 ⟨rfl, hb⟩
          have Ha := Lib.hid (Ha.out.below hb)
          have Hb := Lib.hid (Hb.out.below hb)
          have Hy := Lib.hid (Hy.out.below hb)
          have Hz := Lib.hid (Hz.out.below hb)
          have HB := Lib.hid (HB.out.trans (hb.mono HB.out.size))
          clear hb
          go_wp2_with fail
          refine (match_c _ ry _ _ _ _ Hy.out ls ls2 my MY.out _ HS.out).mono ?_
          rintro e u4 ⟨rfl, hb⟩
          have Ha := Lib.hid (Ha.out.below hb)
          have Hz := Lib.hid (Hz.out.below hb)
          have HB := Lib.hid (HB.out.trans (hb.mono HB.out.size))
          clear hb
          go_wp2_with fail
          refine (match_c _ rz _ _ _ _ Hz.out ls ls2 true MZ.out _ HS.out).mono ?_
          rintro e u5 ⟨rfl, hb⟩
          have Ha := Lib.hid (Ha.out.below hb)
          have HB := Lib.hid (HB.out.trans (hb.mono HB.out.size))
          clear hb
          go_wp2_with fail
          refine (match_c _ ra _ _ _ _ Ha.out ls ls2 true MA.out _ HS.out).mono ?_
          rintro e u6 ⟨rfl, hb⟩
          have HB := Lib.hid (HB.out.trans (hb.mono HB.out.size))
          clear hb
          go_wp2
          go_ret
          exact ⟨by first | rfl | simp, HB.out⟩
        | false =>
          have MA := Lib.hid ha
          obtain ⟨mb, hmb⟩ : ∃ mb, Rx.matchN (Rx.wrap1 Q) ls = mb := ⟨_, rfl⟩
          rw [hmb] at mx
          have MB := Lib.hid hmb
          clear hmb
          rw [ha] at mx mz
          rw [Bool.false_or] at mx
          rw [e0, Bool.false_or] at mz
          have MX := Lib.hid mx
          have MZ := Lib.hid mz
          clear ha mx mz
          have qy : (my == my) = true := beq_self_eq_true _
          have qb : (mb == mb) = true := beq_self_eq_true _
          go_wp2_with fail
          refine (match_c _ rx _ _ _ _ Hx.out ls ls2 mb MX.out _ HS.out).mono ?_
          rintro e u1 ⟨rfl, hb⟩
          have Ha := Lib.hid (Ha.out.below hb)
          have Hb := Lib.hid (Hb.out.below hb)
          have Hy := Lib.hid (Hy.out.below hb)
          have Hz := Lib.hid (Hz.out.below hb)
          have HB := Lib.hid (HB.out.trans (hb.mono HB.out.size))
          clear hb
          go_wp2_with fail
          refine (match_c _ ra _ _ _ _ Ha.out ls ls2 false MA.out _ HS.out).mono ?_
          rintro e u2 ⟨rfl, hb⟩
          have Ha := Lib.hid (Ha.out.below hb)
          have Hb := Lib.hid (Hb.out.below hb)
          have Hy := Lib.hid (Hy.out.below hb)
          have Hz := Lib.hid (Hz.out.below hb)
          have HB := Lib.hid (HB.out.trans (hb.mono HB.out.size))
          clear hb
          go_wp2_with fail
          refine (match_c _ rb _ _ _ _ Hb.out ls ls2 mb MB.out _ HS.out).mono ?_
          rintro e u3 ⟨rfl, hb⟩
          have Ha := Lib.hid (Ha.out.below hb)
          have Hy := Lib.hid (Hy.out.below hb)
          have Hz := Lib.hid (Hz.out.below hb)
          have HB := Lib.hid (HB.out.trans (hb.mono HB.out.size))
          clear hb
          go_wp2_with fail
          refine (match_c _ ry _ _ _ _ Hy.out ls ls2 my MY.out _ HS.out).mono ?_
          rintro e u4 ⟨rfl, hb⟩
          have Ha := Lib.hid (Ha.out.below hb)
          have Hz := Lib.hid (Hz.out.below hb)
          have HB := Lib.hid (HB.out.trans (hb.mono HB.out.size))
          clear hb
          go_wp2_with fail
          refine (match_c _ rz _ _ _ _ Hz.out ls ls2 false MZ.out _ HS.out).mono ?_
          rintro e u5 ⟨rfl, hb⟩
          have Ha := Lib.hid (Ha.out.below hb)
          have HB := Lib.hid (HB.out.trans (hb.mono HB.out.size))
          clear hb
          go_wp2_with fail
          refine (match_c _ ra _ _ _ _ Ha.out ls ls2 false MA.out _ HS.out).mono ?_
          rintro e u6 ⟨rfl, hb⟩
          have HB := Lib.hid (HB.out.trans (hb.mono HB.out.size))
          clear hb
          go_wp2
          go_ret
          exact ⟨by first | rfl | simp, HB.out⟩
theorem parts_law (p q s : ByteArray) (zp : p.data.toList.length < 140737488355328) (zq : q.data.toList.length < 140737488355328) (w : World) (hT : Tab w) : Calls Tryd.prog 5 #[.string p, .string q, .string s] w fun e w' => e = .returned (.bool true) ∧ Below w.heap.size w w' := by
  by_cases h1 : 50 < p.data.toList.length + q.data.toList.length
  · exact parts_p p q s _ _ _ rfl rfl rfl w hT zp zq h1
  by_cases h2 : 20 < s.data.toList.length
  · exact parts_s p q s _ _ _ rfl rfl rfl w hT zp zq (by omega) h2
  cases hA : Rx.compileF p.data.toList with
  | bad er j => exact parts_a p q s _ _ _ rfl rfl rfl w hT zp zq (by omega) (by omega) er j hA
  | ok P z =>
    cases hE : Rx.compileF q.data.toList with
    | bad er j => exact parts_b p q s _ _ _ rfl rfl rfl w hT zp zq (by omega) (by omega) P z hA er j hE
    | ok Q y =>
      cases hC : Rx.compileF (Rx.par [] p.data.toList []) with
      | bad er j => exact parts_c p q s _ _ _ rfl rfl rfl w hT zp zq (by omega) (by omega) P z hA Q y hE er j hC
      | ok Q1 y1 =>
        cases hD : Rx.compileF (Rx.par [] q.data.toList []) with
        | bad er j => exact parts_d p q s _ _ _ rfl rfl rfl w hT zp zq (by omega) (by omega) P z hA Q y hE Q1 y1 hC er j hD
        | ok Q2 y2 =>
          obtain ⟨hp1, hlp⟩ := Rx.par_of hA hC
          obtain ⟨hq1, hlq⟩ := Rx.par_of hE hD
          exact parts_f p q s _ _ _ rfl rfl rfl w hT zp zq (by omega) (by omega) P z hA Q y hE hp1 (by omega) hq1 (by omega)
end Go.Proofs.YtcfdpbbpdnpnnaaDoor
