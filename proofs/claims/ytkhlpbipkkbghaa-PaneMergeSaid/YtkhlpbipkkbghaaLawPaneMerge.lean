/- belfrylaw12.PaneMerge: the walk. -/
import Derived.Test.YtkhlpbipkkbghaaSu
namespace Go.Proofs.Ytkhlpbipkkbghaa
open Go Go.Proofs Go.RowKit Go.Shelf
set_option maxRecDepth 100000
attribute [local go_sem] cell_set Oper.semAt_some
namespace LawPaneMerge
set_option maxHeartbeats 4000000 in
theorem main (aa : Option Addr) (ac : Nat) (L : List Smp) (ct : Nat) (hct : ct ≤ 255) (w : World) (hL : Smps w (.slice aa L.length ac) L) (hO : ∀ s ∈ L, LabOK w s) (hx : ∀ x ∈ nums L, I64 x.v) (hc : L.length ≤ ac) :
    Calls Try.prog 4 #[.slice aa L.length ac, .int .u8 (ct : Int)] w fun e w' => e = .returned (.bool true) ∧ Below w.heap.size w w' := by
  have HK := Lib.hid (known_any w)
  have GO := Lib.hid (fun W (hW : Below w.heap.size w W) => good_any aa ac L W (hL.below hW) (fun s hs => (hO s hs).below hW))
  have HL := Lib.hid hL
  have HX := Lib.hid hx
  clear hL hO hx
  go_enter Try.func4, Try.ntmps4
  go_wp2_with fail
  refine HK.out.mono ?_
  rintro e w1 ⟨rfl, B⟩
  go_wp2_with fail
  refine (GO.out _ B).mono ?_
  rintro e w2 ⟨b, rfl, hg, hb⟩
  have B := below_then B hb
  clear hb HK GO
  cases b
  · go_wp2
    go_ret
    exact ⟨rfl, B⟩
  · obtain ⟨h80, _⟩ := hg rfl
    clear hg
    obtain ⟨k, hk⟩ : ∃ k, ct % (L.length + 1) = k := ⟨_, rfl⟩
    have hkl : k ≤ L.length := by have := Nat.mod_lt ct (show 0 < L.length + 1 by omega); omega
    have hmod : (ct : Int) % ((L.length : Int) + 1) = (k : Int) := by rw [← hk]; simp
    have hmod2 : ((ct : Int)).tmod ((L.length : Int) + 1) = (k : Int) := by rw [← hk]; exact (Int.ofNat_tmod ct (L.length + 1)).symm
    have hne : ¬ ((L.length : Int) + 1 = 0) := by omega
    have hkc : (k : Int) ≤ (ac : Int) := by omega
    have hkL : (k : Int) ≤ (L.length : Int) := by omega
    have hk0 : (0 : Int) ≤ (k : Int) := by omega
    have hlc : (L.length : Int) ≤ (ac : Int) := by omega
    have O1 := Lib.hid (fun W (hW : Below w.heap.size w W) => pof_n aa k ac (L.take k) (by rw [List.length_take]; omega) (fun x h => HX.out x (by rw [nums_take] at h; exact List.mem_of_mem_take h)) W (by
      have := (HL.out.below hW).sub 0 k ac (by omega) hkl hc
      rw [subA_0, List.drop_zero] at this
      exact this))
    have O2 := Lib.hid (fun W (hW : Below w.heap.size w W) => pof_n (subA aa ac k) (L.length - k) (ac - k) (L.drop k) (by rw [List.length_drop]; omega) (fun x h => HX.out x (by rw [nums_drop] at h; exact List.mem_of_mem_drop h)) W (by
      have := (HL.out.below hW).sub k L.length ac hkl (by omega) hc
      rw [List.take_length] at this
      exact this))
    have O3 := Lib.hid (fun W (hW : Below w.heap.size w W) => pof_n aa L.length ac L (by omega) HX.out W (HL.out.below hW))
    have MG := Lib.hid (fun W => merge_any (ofR (nums (L.take k))) (ofR (nums (L.drop k))) (ofR_bd _ (fun x h => HX.out x (by rw [nums_take] at h; exact List.mem_of_mem_take h)) (by rw [nums_len, List.length_take]; omega)) (ofR_bd _ (fun x h => HX.out x (by rw [nums_drop] at h; exact List.mem_of_mem_drop h)) (by rw [nums_len, List.length_drop]; omega)) (by rw [nums_len, nums_len, List.length_take, List.length_drop]; omega) W)
    have hm : mergeR (ofR (nums (L.take k))) (ofR (nums (L.drop k))) = ofR (nums L) := by rw [← ofR_app, ← nums_app, List.take_append_drop]
    rw [hm] at MG
    generalize ofR (nums L) = r at *
    generalize ofR (nums (L.take k)) = p at *
    generalize ofR (nums (L.drop k)) = q at *
    have hA : (if ac = k then aa else aa.map (·.add (k * 5))) = subA aa ac k := rfl
    generalize subA aa ac k = a2 at *
    unfold Pn.V at *
    clear hm HX HL hk
    go_wp2_with fail
    refine wp_region_held_drew (S := fun u => Below w.heap.size w u) (by kernel_rfl) B.drew (fun hS => ?_)
    generalize w2.drew = w0 at *
    clear B
    refine tkC 0 hS (fun u h => h) ?_
    refine tkC 1 hS (fun u h => h) ?_
    refine tkC 2 (v := .slice aa k ac) hS (fun u h => h) ?_
    refine tkC 4 hS (fun u h => h) ?_
    refine tkC 5 hS (fun u h => h) ?_
    refine tkC 6 (v := .slice a2 (L.length - k) (ac - k)) hS (fun u h => h) ?_
    refine tkC 9 hS (fun u h => h) ?_
    refine anyH_1 3 (fun K hK => ?_)
    go_simp
    go_at_call 9
    refine (O1.out _ hS).mono ?_
    rintro e w1 ⟨rfl, hb1⟩
    have hM1 := below_then hS hb1
    go_wp2_with fail
    refine hK.out _ _ hM1 (fun hS => ?_)
    clear hM1 hK K hb1
    refine anyH_1 7 (fun K hK => ?_)
    go_simp
    go_at_call 9
    refine (O2.out _ hS).mono ?_
    rintro e w1 ⟨rfl, hb1⟩
    have hM1 := below_then hS hb1
    go_wp2_with fail
    refine hK.out _ _ hM1 (fun hS => ?_)
    clear hM1 hK K hb1
    refine anyH_1 8 (fun K hK => ?_)
    go_simp
    go_at_call 16
    refine (MG.out _).mono ?_
    rintro e w1 ⟨rfl, hb1⟩
    have hM1 := below_then hS hb1
    go_wp2_with fail
    refine hK.out _ _ hM1 (fun hS => ?_)
    clear hM1 hK K hb1
    refine anyH_1 10 (fun K hK => ?_)
    go_simp
    go_at_call 9
    refine (O3.out _ hS).mono ?_
    rintro e w1 ⟨rfl, hb1⟩
    have hM1 := below_then hS hb1
    go_wp2_with fail
    refine hK.out _ _ hM1 (fun hS => ?_)
    clear hM1 hK K hb1
    refine tkC 11 hS (fun u h => h) ?_
    refine tkC 12 hS (fun u h => h) ?_
    refine wpAnyH_done (by kernel_rfl) ?_ _
    go_wp2
    go_ret
    exact ⟨rfl, hS⟩
theorem any (aa : Option Addr) (ac : Nat) (L : List Smp) (n1 : Int) (w : World) (hL : Smps w (.slice aa L.length ac) L) (hO : ∀ s ∈ L, LabOK w s) (hx : ∀ x ∈ nums L, I64 x.v) (hc : L.length ≤ ac) (wk1 : (Lit.int .u8 n1).wf = true) :
    Calls Try.prog 4 #[.slice aa L.length ac, .int .u8 n1] w fun e w' => e = .returned (.bool true) ∧ Below w.heap.size w w' := by
  have h2 : 0 ≤ n1 ∧ n1 ≤ 255 := by simpa [Lit.wf, IntKind.min, IntKind.max, IntKind.signed, IntKind.bits] using wk1
  obtain ⟨ts, rfl⟩ : ∃ k : Nat, n1 = (k : Int) := ⟨n1.toNat, by omega⟩
  exact main aa ac L ts (by omega) w hL hO hx hc
end LawPaneMerge
end Go.Proofs.Ytkhlpbipkkbghaa
