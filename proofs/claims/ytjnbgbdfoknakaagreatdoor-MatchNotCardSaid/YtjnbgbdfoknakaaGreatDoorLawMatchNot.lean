/- belfrylaw5.MatchNot. -/
import Derived.Test.YtjnbgbdfoknakaaGreatDoorMtK
namespace Go.Proofs.YtjnbgbdfoknakaaGreatDoor
open Go Go.Proofs Go.RowKit Go.Shelf
set_option maxRecDepth 100000
theorem few_val {zs : List Lab} {ss : List SLab} (h : fewR zs = true) (hs : ss.map (·.1) = zs) : ∀ y ∈ ss, y.1.2.length ≤ 1000 := by
 intro y hy
 have hm : y.1 ∈ zs := by rw [← hs]; exact List.mem_map_of_mem hy
 unfold fewR at h
 rw [Bool.and_eq_true, List.all_eq_true] at h
 have := h.2 _ hm
 unfold fewL at this
 rw [Bool.and_eq_true, decide_eq_true_eq, decide_eq_true_eq] at this
 omega
theorem hold_a (n u v : List UInt8) : holds1 (n, [61], u) v = (v == u) := by unfold holds1; rw [if_pos rfl]
theorem hold_b (n u v : List UInt8) : holds1 (n, [33, 61], u) v = !(v == u) := by unfold holds1; rw [if_neg (by dsimp only; decide), if_pos rfl]; rfl
theorem hold_c (n u v : List UInt8) : holds1 (n, [61, 126], u) v = takesR u v := by unfold holds1; rw [if_neg (by dsimp only; decide), if_neg (by dsimp only; decide), if_pos rfl]
theorem hold_d (n u v : List UInt8) : holds1 (n, [33, 126], u) v = !takesR u v := by unfold holds1; rw [if_neg (by dsimp only; decide), if_neg (by dsimp only; decide), if_neg (by dsimp only; decide), if_pos rfl]
theorem cm_any (n u : List UInt8) (h : ShortI (n, [61, 126], u)) (w : World) : ∃ C : Int, Calls Tryz.prog 9 #[.slice (some ⟨w.heap.size, 0, none⟩) 1 1] (w.alloc (.cells #[.string ⟨n.toArray⟩, .string ⟨#[61, 126]⟩, .string ⟨u.toArray⟩] 43)) fun e w' => e = .returned (.int .i64 C) ∧ Below (w.alloc (.cells #[.string ⟨n.toArray⟩, .string ⟨#[61, 126]⟩, .string ⟨u.toArray⟩] 43)).heap.size (w.alloc (.cells #[.string ⟨n.toArray⟩, .string ⟨#[61, 126]⟩, .string ⟨u.toArray⟩] 43)) w' :=
 ⟨_, rcheckM_any _ [⟨(n, [61, 126], u), h⟩] (by simp) _ (mt_one w ⟨(n, [61, 126], u), h⟩ 43)⟩
set_option maxHeartbeats 4000000 in
theorem not_law (n u : List UInt8) (hn : n.length ≤ 9223372036854775807) (hu : u.length ≤ 9223372036854775807) (a : Option Addr) (len cap : Nat) (zs : List Lab) (hlen : zs.length ≤ 9223372036854775807) (hbig : ∀ x ∈ zs, x.1.length ≤ 9223372036854775807 ∧ x.2.length ≤ 9223372036854775807) (w : World) (hT : Tab w) (hI : LabsG w.heap.size w (.slice a len cap) zs) :
  Calls Tryz.prog 4 #[.string ⟨n.toArray⟩, .string ⟨u.toArray⟩, .slice a len cap] w fun e w' => e = .returned (.bool true) ∧ Below w.heap.size w w' := by
 have KN := Lib.hid (known_any w hT)
 by_cases h1 : 100 < n.length
 ·
  have d1 : (100 : Int) < (n.length : Int) := by omega
  go_enter Tryz.func4, Tryz.ntmps4
  go_wp2_with fail
  refine (KN.out).mono ?_
  rintro e w1 ⟨rfl, hb⟩
  go_wp2
  go_ret
  exact ⟨rfl, hb⟩
 have d1 : ¬ (100 : Int) < (n.length : Int) := by omega
 by_cases h2 : 200 < u.length
 ·
  have d2 : (200 : Int) < (u.length : Int) := by omega
  go_enter Tryz.func4, Tryz.ntmps4
  go_wp2_with fail
  refine (KN.out).mono ?_
  rintro e w1 ⟨rfl, hb⟩
  go_wp2
  go_ret
  exact ⟨rfl, hb⟩
 have d2 : ¬ (200 : Int) < (u.length : Int) := by omega
 have GD := Lib.hid (fun W (hW : Below w.heap.size w W) => good_any a len cap zs hlen hbig W (by
  rcases hI.below hW with e | ⟨b, off, c, e, q1, q2⟩
  ·
   exact .inl e
  ·
   exact .inr ⟨b, off, c, e, Nat.lt_of_lt_of_le q1 hW.size, q2⟩))
 have HI := Lib.hid hI
 have HT := Lib.hid (fun W (hW : Below w.heap.size w W) => hT.below hW)
 clear hI hT
 go_enter Tryz.func4, Tryz.ntmps4
 go_wp2_with fail
 refine (KN.out).mono ?_
 rintro e w1 ⟨rfl, hb1⟩
 go_wp2_with fail
 refine (GD.out _ hb1).mono ?_
 rintro e w2 ⟨b, rfl, hb, hf⟩
 have HB := Lib.hid (hb1.trans (hb.mono hb1.size))
 clear hb hb1 KN GD
 cases b
 ·
  clear hf
  go_wp2
  go_ret
  exact ⟨rfl, HB.out⟩
 have hf := hf rfl
 obtain ⟨ss, hss, hl⟩ := few_short hf
 have hv := few_val hf hss
 have hL : Labs w.heap.size w (.slice a len cap) ss := LabsG.toS (by rw [hss]; exact HI.out)
 have hsh : ∀ o : List UInt8, o.length ≤ 10 → ShortI (n, o, u) := fun o ho => ⟨by dsimp only; omega, by dsimp only; omega, by dsimp only; omega⟩
 obtain ⟨C, CM0⟩ := cm_any n u (hsh _ (by decide)) w2
 have CM := Lib.hid CM0
 have AL := Lib.hid (fun o ho W (hW : Below w.heap.size w W) => alone_any n o u (hsh o ho) a len cap ss (by omega) hv W (HT.out W hW) (labs_on hL hW))
 clear hf hss hv hL HI HT hsh CM0
 generalize getR n ss = v at *
 have A1 := Lib.hid (fun W hW => AL.out [61] (by decide) W hW)
 have A2 := Lib.hid (fun W hW => AL.out [33, 61] (by decide) W hW)
 have A3 := Lib.hid (fun W hW => AL.out [61, 126] (by decide) W hW)
 have A4 := Lib.hid (fun W hW => AL.out [33, 126] (by decide) W hW)
 rw [hold_a] at A1
 rw [hold_b] at A2
 rw [hold_c] at A3
 rw [hold_d] at A4
 clear AL
 generalize (v == u) = b1 at *
 generalize takesR u v = b2 at *
 go_wp2_with fail
 refine (CM.out).mono ?_
 rintro e w3 ⟨rfl, hb⟩
 have HB3 := Lib.hid ((below_new HB.out _).trans (hb.mono (below_new HB.out _).size))
 clear hb CM
 by_cases hC : C = 0
 ·
  subst hC
  go_wp2_with fail
  refine (A1.out _ HB3.out).mono ?_
  rintro e w4 ⟨rfl, hb⟩
  have HB4 := Lib.hid (HB3.out.trans (hb.mono HB3.out.size))
  clear hb
  go_wp2_with fail
  refine (A2.out _ HB4.out).mono ?_
  rintro e w5 ⟨rfl, hb⟩
  have HB5 := Lib.hid (HB4.out.trans (hb.mono HB4.out.size))
  clear hb
  go_wp2_with fail
  refine (A3.out _ HB5.out).mono ?_
  rintro e w6 ⟨rfl, hb⟩
  have HB6 := Lib.hid (HB5.out.trans (hb.mono HB5.out.size))
  clear hb
  go_wp2_with fail
  refine (A4.out _ HB6.out).mono ?_
  rintro e w7 ⟨rfl, hb⟩
  have HB7 := Lib.hid (HB6.out.trans (hb.mono HB6.out.size))
  clear hb A1 A2 A3 A4
  cases b1 <;> cases b2
  all_goals
   go_wp2
   go_ret
   exact ⟨rfl, HB7.out⟩
 ·
  have q0 : (C == 0) = false := by rw [beq_eq_false_iff_ne]; exact hC
  clear hC A1 A2 A3 A4
  go_wp2
  go_ret
  exact ⟨rfl, HB3.out⟩
end Go.Proofs.YtjnbgbdfoknakaaGreatDoor
