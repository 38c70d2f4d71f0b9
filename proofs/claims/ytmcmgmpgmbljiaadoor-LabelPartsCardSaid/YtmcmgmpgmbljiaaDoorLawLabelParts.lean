/- belfrylaw3.LabelParts. -/
import Derived.Test.YtmcmgmpgmbljiaaDoorLawLabelWith
import Derived.Test.YtmcmgmpgmbljiaaDoorRefU
import Derived.Test.YtmcmgmpgmbljiaaDoorRefW
namespace Go.Proofs.YtmcmgmpgmbljiaaDoor
open Go Go.Proofs Go.RowKit Go.Shelf
set_option maxRecDepth 100000
theorem same_true (a1 a2 : Option Addr) (c1 c2 : Nat) (x : List SLab) (hx : x.length ≤ 100) (w : World) (h1 : Labs w.heap.size w (.slice a1 x.length c1) x) (h2 : Labs w.heap.size w (.slice a2 x.length c2) x) :
    Calls Tryd.prog 16 #[.slice a1 x.length c1, .slice a2 x.length c2] w fun e w' => e = .returned (.bool true) ∧ Below w.heap.size w w' := by
  have := rsame_any a1 a2 x.length c1 x.length c2 x x hx hx w h1 h2
  rw [show (textL x == textL x && ((x.length : Int) == (x.length : Int))) = true from by simp] at this
  exact this
theorem withR_len (zs : List SLab) (n v : List UInt8) (hs : Short (n, v)) (p : Nat) : (withR zs n v hs p).length ≤ zs.length + 1 := by
  have h : (othersR zs n).length ≤ zs.length := List.length_filter_le _ _
  unfold withR
  split
  · omega
  · simp only [List.length_append, List.length_cons, List.length_take, List.length_drop]; omega
theorem parts_no (a na : Option Addr) (len cap nl nc : Nat) (zs : List Lab) (hlen : zs.length ≤ 9223372036854775807) (hbig : ∀ x ∈ zs, x.1.length ≤ 9223372036854775807 ∧ x.2.length ≤ 9223372036854775807) (n v : List UInt8) (hf : fewR zs = false) (w : World) (hI : LabsG w.heap.size w (.slice a len cap) zs) :
    Calls Tryd.prog 4 #[.slice a len cap, .string ⟨n.toArray⟩, .string ⟨v.toArray⟩, .slice na nl nc] w fun e w' => e = .returned (.bool true) ∧ Below w.heap.size w w' := by
  have K := Lib.hid (known_any w)
  have LT := Lib.hid (fun (w1 : World) (hb : Below w.heap.size w w1) => good_no a len cap zs hlen hbig hf w1.heap.size w1 (labsG_later hI hb))
  clear hI hbig
  go_enter Tryd.func4, Tryd.ntmps4
  go_wp2_with fail
  refine (K.out).mono ?_
  rintro e w1 ⟨rfl, B⟩
  go_wp2_with fail
  refine (LT.out _ B).mono ?_
  rintro e w2 ⟨rfl, rfl⟩
  go_wp2
  go_ret
  exact ⟨rfl, B⟩
theorem parts_bad (a na : Option Addr) (len cap nl nc : Nat) (ss : List SLab) (hss : ss.length ≤ 30) (hf : fewR (ss.map (·.1)) = true) (n v : List UInt8) (hc : checkR ss ≠ 0) (w : World) (hI : Labs w.heap.size w (.slice a len cap) ss) :
    Calls Tryd.prog 4 #[.slice a len cap, .string ⟨n.toArray⟩, .string ⟨v.toArray⟩, .slice na nl nc] w fun e w' => e = .returned (.bool true) ∧ Below w.heap.size w w' := by
  obtain rfl : len = ss.length := hI.len
  have K := Lib.hid (known_any w)
  have GD := Lib.hid (fun (w1 : World) (hb : Below w.heap.size w w1) => good_any a ss.length cap ss (by omega) hf w1 (labs_later hI hb))
  rw [show (checkR ss == 0) = false from by rw [beq_eq_false_iff_ne]; exact hc] at GD
  clear hI hf hc
  go_enter Tryd.func4, Tryd.ntmps4
  go_wp2_with fail
  refine (K.out).mono ?_
  rintro e w1 ⟨rfl, B⟩
  go_wp2_with fail
  refine (GD.out _ B).mono ?_
  rintro e w2 ⟨rfl, hb⟩
  have B := below_then B hb
  clear hb
  go_wp2
  go_ret
  exact ⟨rfl, B⟩
theorem parts_name (a na : Option Addr) (len cap nl nc : Nat) (ss : List SLab) (hss : ss.length ≤ 30) (hf : fewR (ss.map (·.1)) = true) (n v : List UInt8) (hc : checkR ss = 0) (hn : 100 < n.length) (hn2 : n.length ≤ 9223372036854775807) (w : World) (hI : Labs w.heap.size w (.slice a len cap) ss) :
    Calls Tryd.prog 4 #[.slice a len cap, .string ⟨n.toArray⟩, .string ⟨v.toArray⟩, .slice na nl nc] w fun e w' => e = .returned (.bool true) ∧ Below w.heap.size w w' := by
  obtain rfl : len = ss.length := hI.len
  have K := Lib.hid (known_any w)
  have GD := Lib.hid (fun (w1 : World) (hb : Below w.heap.size w w1) => good_any a ss.length cap ss (by omega) hf w1 (labs_later hI hb))
  rw [show (checkR ss == 0) = true from by rw [beq_iff_eq]; exact hc] at GD
  have p1 : (100 : Int) < (n.length : Int) := by omega
  clear hI hf hc
  go_enter Tryd.func4, Tryd.ntmps4
  go_wp2_with fail
  refine (K.out).mono ?_
  rintro e w1 ⟨rfl, B⟩
  go_wp2_with fail
  refine (GD.out _ B).mono ?_
  rintro e w2 ⟨rfl, hb⟩
  have B := below_then B hb
  clear hb
  go_wp2
  go_ret
  exact ⟨rfl, B⟩
theorem parts_value (a na : Option Addr) (len cap nl nc : Nat) (ss : List SLab) (hss : ss.length ≤ 30) (hf : fewR (ss.map (·.1)) = true) (n v : List UInt8) (hc : checkR ss = 0) (hn : ¬ 100 < n.length) (hv : 200 < v.length) (hv2 : v.length ≤ 9223372036854775807) (w : World) (hI : Labs w.heap.size w (.slice a len cap) ss) :
    Calls Tryd.prog 4 #[.slice a len cap, .string ⟨n.toArray⟩, .string ⟨v.toArray⟩, .slice na nl nc] w fun e w' => e = .returned (.bool true) ∧ Below w.heap.size w w' := by
  obtain rfl : len = ss.length := hI.len
  have K := Lib.hid (known_any w)
  have GD := Lib.hid (fun (w1 : World) (hb : Below w.heap.size w w1) => good_any a ss.length cap ss (by omega) hf w1 (labs_later hI hb))
  rw [show (checkR ss == 0) = true from by rw [beq_iff_eq]; exact hc] at GD
  have p1 : ¬ (100 : Int) < (n.length : Int) := by omega
  have p2 : (200 : Int) < (v.length : Int) := by omega
  clear hI hf hc
  go_enter Tryd.func4, Tryd.ntmps4
  go_wp2_with fail
  refine (K.out).mono ?_
  rintro e w1 ⟨rfl, B⟩
  go_wp2_with fail
  refine (GD.out _ B).mono ?_
  rintro e w2 ⟨rfl, hb⟩
  have B := below_then B hb
  clear hb
  go_wp2
  go_ret
  exact ⟨rfl, B⟩
theorem parts_names (a na : Option Addr) (len cap nl nc : Nat) (ss : List SLab) (hss : ss.length ≤ 30) (hf : fewR (ss.map (·.1)) = true) (n v : List UInt8) (hc : checkR ss = 0) (hn : ¬ 100 < n.length) (hv : ¬ 200 < v.length) (ns : List (List UInt8)) (hnl : ns.length ≤ 9223372036854775807) (hnb : ∀ x ∈ ns, x.length ≤ 9223372036854775807) (hfn : fewN ns = false) (w : World) (hI : Labs w.heap.size w (.slice a len cap) ss) (hN : NamesG w.heap.size w (.slice na nl nc) ns) :
    Calls Tryd.prog 4 #[.slice a len cap, .string ⟨n.toArray⟩, .string ⟨v.toArray⟩, .slice na nl nc] w fun e w' => e = .returned (.bool true) ∧ Below w.heap.size w w' := by
  obtain rfl : len = ss.length := hI.len
  have K := Lib.hid (known_any w)
  have GD := Lib.hid (fun (w1 : World) (hb : Below w.heap.size w w1) => good_any a ss.length cap ss (by omega) hf w1 (labs_later hI hb))
  rw [show (checkR ss == 0) = true from by rw [beq_iff_eq]; exact hc] at GD
  have p1 : ¬ (100 : Int) < (n.length : Int) := by omega
  have p2 : ¬ (200 : Int) < (v.length : Int) := by omega
  have FN := Lib.hid (fun (w1 : World) (hb : Below w.heap.size w w1) => fewN_any na nl nc ns hnl hnb w1.heap.size w1 (hN.later hb))
  rw [hfn] at FN
  clear hI hf hc hN hnb
  go_enter Tryd.func4, Tryd.ntmps4
  go_wp2_with fail
  refine (K.out).mono ?_
  rintro e w1 ⟨rfl, B⟩
  go_wp2_with fail
  refine (GD.out _ B).mono ?_
  rintro e w2 ⟨rfl, hb⟩
  have B := below_then B hb
  clear hb
  go_wp2_with fail
  refine (FN.out _ B).mono ?_
  rintro e w3 ⟨rfl, rfl⟩
  go_wp2
  go_ret
  exact ⟨rfl, B⟩
set_option maxHeartbeats 16000000 in
theorem parts_a (a na : Option Addr) (len cap nl nc : Nat) (ss : List SLab) (hss : ss.length ≤ 30) (hf : fewR (ss.map (·.1)) = true) (n v : List UInt8) (hc : checkR ss = 0) (hn : ¬ 100 < n.length) (hv : ¬ 200 < v.length) (ns : List (List UInt8)) (hnl : ns.length ≤ 30) (hfn : fewN ns = true) (hm : nameR n = false) (w : World) (hI : Labs w.heap.size w (.slice a len cap) ss) (hN : NamesG w.heap.size w (.slice na nl nc) ns) :
    Calls Tryd.prog 4 #[.slice a len cap, .string ⟨n.toArray⟩, .string ⟨v.toArray⟩, .slice na nl nc] w fun e w' => e = .returned (.bool true) ∧ Below w.heap.size w w' := by
  obtain rfl : len = ss.length := hI.len
  have K := Lib.hid (known_any w)
  have GD := Lib.hid (fun (w1 : World) (hb : Below w.heap.size w w1) => good_any a ss.length cap ss (by omega) hf w1 (labs_later hI hb))
  rw [show (checkR ss == 0) = true from by rw [beq_iff_eq]; exact hc] at GD
  have p1 : ¬ (100 : Int) < (n.length : Int) := by omega
  have p2 : ¬ (200 : Int) < (v.length : Int) := by omega
  have NT := Lib.hid (fun (w1 : World) (hb : Below w.heap.size w w1) => hN.later hb)
  have LT := Lib.hid (fun (w1 : World) (hb : Below w.heap.size w w1) => labs_later hI hb)
  have FN := Lib.hid (fun (w1 : World) (hb : Below w.heap.size w w1) => fewN_any na nl nc ns (by omega) (fun x hx => by have := (fewN_len hfn).2 x hx; omega) w1.heap.size w1 (NT.out w1 hb))
  rw [hfn] at FN
  have OS := Lib.hid (fun (w1 : World) (hb : Below w.heap.size w w1) => of_any a ss.length cap ss (by omega) w1 (LT.out w1 hb))
  have GE := Lib.hid (fun (w1 : World) (hb : Below w.heap.size w w1) => get_any a ss.length cap ss (by omega) n w1 (LT.out w1 hb))
  have RG := Lib.hid (fun (w1 : World) a1 c1 (h : Labs w1.heap.size w1 (.slice a1 ss.length c1) ss) => rget_any a1 ss.length c1 ss (by omega) n w1.heap.size w1 h)
  have ON := Lib.hid (fun (w1 : World) (hb : Below w.heap.size w w1) => only_any a na ss.length cap nl nc ns ss (by omega) w1 (LT.out w1 hb) ((NT.out w1 hb).few (by omega)))
  have RO := Lib.hid (fun (w1 : World) a1 c1 (hb : Below w.heap.size w w1) (h : Labs w1.heap.size w1 (.slice a1 ss.length c1) ss) => ronly_any a1 na ss.length c1 nl nc ns ss (by omega) w1 h ((NT.out w1 hb).few (by omega)))
  have WO := Lib.hid (fun (w1 : World) (hb : Below w.heap.size w w1) => without_any a na ss.length cap nl nc ns ss (by omega) w1 (LT.out w1 hb) ((NT.out w1 hb).few (by omega)))
  have RW := Lib.hid (fun (w1 : World) a1 c1 (hb : Below w.heap.size w w1) (h : Labs w1.heap.size w1 (.slice a1 ss.length c1) ss) => rwithout_any a1 na ss.length c1 nl nc ns ss (by omega) w1 h ((NT.out w1 hb).few (by omega)))
  have h1l : (ss.filter (keepB ns true)).length ≤ 100 := by have := List.length_filter_le (keepB ns true) ss; omega
  have h2l : (ss.filter (keepB ns false)).length ≤ 100 := by have := List.length_filter_le (keepB ns false) ss; omega
  have OO := Lib.hid (fun (w1 : World) a1 c1 (h : Labs w1.heap.size w1 (.slice a1 (ss.filter (keepB ns true)).length c1) (ss.filter (keepB ns true))) => of_any a1 _ c1 _ h1l w1 h)
  have OW := Lib.hid (fun (w1 : World) a1 c1 (h : Labs w1.heap.size w1 (.slice a1 (ss.filter (keepB ns false)).length c1) (ss.filter (keepB ns false))) => of_any a1 _ c1 _ h2l w1 h)
  have S1 := Lib.hid (fun (w1 : World) a1 c1 a2 c2 h h' => same_true a1 a2 c1 c2 (ss.filter (keepB ns true)) h1l w1 h h')
  have S2 := Lib.hid (fun (w1 : World) a1 c1 a2 c2 h h' => same_true a1 a2 c1 c2 (ss.filter (keepB ns false)) h2l w1 h h')
  have S0 := Lib.hid (fun (w1 : World) a1 c1 a2 c2 h h' => same_true a1 a2 c1 c2 ss (by omega) w1 h h')
  have NM := Lib.hid (fun W => rname_any n (by omega) W)
  have VL := Lib.hid (fun W => rvalue_any v (by omega) W)
  rw [hm] at NM
  generalize ss.filter (keepB ns true) = fo at *
  generalize ss.filter (keepB ns false) = fw at *
  generalize getR n ss = G at *
  have eg : (⟨G.toArray⟩ : ByteArray).toList = G := by rw [ByteArray.toList_eq]
  have ev : (⟨v.toArray⟩ : ByteArray).toList = v := by rw [ByteArray.toList_eq]
  have e0 : (⟨#[]⟩ : ByteArray).toList = [] := by rw [ByteArray.toList_eq]
  have qg : (G != G) = false := by simp
  clear hI hf hc hN hfn hnl LT NT h1l h2l hm
  go_enter Tryd.func4, Tryd.ntmps4
  go_wp2_with fail
  refine (K.out).mono ?_
  rintro e w1 ⟨rfl, B⟩
  go_wp2_with fail
  refine (GD.out _ B).mono ?_
  rintro e w2 ⟨rfl, hb⟩
  have B := below_then B hb
  clear hb
  go_wp2_with fail
  refine (FN.out _ B).mono ?_
  rintro e w3 ⟨rfl, rfl⟩
  go_wp2_with fail
  refine (OS.out _ B).mono ?_
  rintro e w4 ⟨v4, rfl, hr, hb⟩
  have B := below_then B hb
  clear hb
  have P := labs_of_row9 hr
  obtain ⟨a4, c4, rfl⟩ := slice_of P
  clear hr
  go_wp2_with fail
  refine (GE.out _ B).mono ?_
  rintro e w5 ⟨rfl, hb⟩
  have P := labs_later P hb
  have B := below_then B hb
  clear hb
  go_wp2_with fail
  refine (RG.out _ _ _ P).mono ?_
  rintro e w6 ⟨rfl, rfl⟩
  go_wp2_with fail
  refine (ON.out _ B).mono ?_
  rintro e w7 ⟨v7, rfl, hr, hb⟩
  have P := labs_later P hb
  have B := below_then B hb
  clear hb
  have U := labs_of_row hr
  obtain ⟨a7, c7, rfl⟩ := slice_of U
  clear hr
  go_wp2_with fail
  refine (OO.out _ _ _ U).mono ?_
  rintro e w8 ⟨v8, rfl, hr, hb⟩
  have P := labs_later P hb
  have U := labs_later U hb
  have B := below_then B hb
  clear hb
  have Q := labs_of_row9 hr
  obtain ⟨a8, c8, rfl⟩ := slice_of Q
  clear hr
  clear U
  go_wp2_with fail
  refine (RO.out _ _ _ B P).mono ?_
  rintro e w9 ⟨v9, rfl, hr, hb⟩
  have P := labs_later P hb
  have Q := labs_later Q hb
  have B := below_then B hb
  clear hb
  have R := labs_of_row9 hr
  obtain ⟨a9, c9, rfl⟩ := slice_of R
  clear hr
  go_wp2_with fail
  refine (S1.out _ _ _ _ _ Q R).mono ?_
  rintro e w10 ⟨rfl, hb⟩
  have P := labs_later P hb
  have Q := labs_later Q hb
  have R := labs_later R hb
  have B := below_then B hb
  clear hb
  clear Q R
  go_wp2_with fail
  refine (WO.out _ B).mono ?_
  rintro e w11 ⟨v11, rfl, hr, hb⟩
  have P := labs_later P hb
  have B := below_then B hb
  clear hb
  have U := labs_of_row hr
  obtain ⟨a11, c11, rfl⟩ := slice_of U
  clear hr
  go_wp2_with fail
  refine (OW.out _ _ _ U).mono ?_
  rintro e w12 ⟨v12, rfl, hr, hb⟩
  have P := labs_later P hb
  have U := labs_later U hb
  have B := below_then B hb
  clear hb
  have Q := labs_of_row9 hr
  obtain ⟨a12, c12, rfl⟩ := slice_of Q
  clear hr
  clear U
  go_wp2_with fail
  refine (RW.out _ _ _ B P).mono ?_
  rintro e w13 ⟨v13, rfl, hr, hb⟩
  have P := labs_later P hb
  have Q := labs_later Q hb
  have B := below_then B hb
  clear hb
  have R := labs_of_row9 hr
  obtain ⟨a13, c13, rfl⟩ := slice_of R
  clear hr
  go_wp2_with fail
  refine (S2.out _ _ _ _ _ Q R).mono ?_
  rintro e w14 ⟨rfl, hb⟩
  have P := labs_later P hb
  have Q := labs_later Q hb
  have R := labs_later R hb
  have B := below_then B hb
  clear hb
  clear Q R
  go_wp2_with fail
  refine (NM.out _).mono ?_
  rintro e w15 ⟨rfl, rfl⟩
  go_wp2_with fail
  refine (OS.out _ B).mono ?_
  rintro e w16 ⟨v16, rfl, hr, hb⟩
  have P := labs_later P hb
  have B := below_then B hb
  clear hb
  have Q := labs_of_row9 hr
  obtain ⟨a16, c16, rfl⟩ := slice_of Q
  clear hr
  go_wp2_with fail
  refine (S0.out _ _ _ _ _ Q P).mono ?_
  rintro e w17 ⟨rfl, hb⟩
  have P := labs_later P hb
  have Q := labs_later Q hb
  have B := below_then B hb
  clear hb
  clear Q P
  go_wp2
  go_ret
  exact ⟨rfl, B⟩
set_option maxHeartbeats 16000000 in
theorem parts_b (a na : Option Addr) (len cap nl nc : Nat) (ss : List SLab) (hss : ss.length ≤ 30) (hf : fewR (ss.map (·.1)) = true) (n v : List UInt8) (hc : checkR ss = 0) (hn : ¬ 100 < n.length) (hv : ¬ 200 < v.length) (ns : List (List UInt8)) (hnl : ns.length ≤ 30) (hfn : fewN ns = true) (hm : nameR n = true) (hy : v ≠ []) (hz : valueR v = false) (w : World) (hI : Labs w.heap.size w (.slice a len cap) ss) (hN : NamesG w.heap.size w (.slice na nl nc) ns) :
    Calls Tryd.prog 4 #[.slice a len cap, .string ⟨n.toArray⟩, .string ⟨v.toArray⟩, .slice na nl nc] w fun e w' => e = .returned (.bool true) ∧ Below w.heap.size w w' := by
  obtain rfl : len = ss.length := hI.len
  have K := Lib.hid (known_any w)
  have GD := Lib.hid (fun (w1 : World) (hb : Below w.heap.size w w1) => good_any a ss.length cap ss (by omega) hf w1 (labs_later hI hb))
  rw [show (checkR ss == 0) = true from by rw [beq_iff_eq]; exact hc] at GD
  have p1 : ¬ (100 : Int) < (n.length : Int) := by omega
  have p2 : ¬ (200 : Int) < (v.length : Int) := by omega
  have NT := Lib.hid (fun (w1 : World) (hb : Below w.heap.size w w1) => hN.later hb)
  have LT := Lib.hid (fun (w1 : World) (hb : Below w.heap.size w w1) => labs_later hI hb)
  have FN := Lib.hid (fun (w1 : World) (hb : Below w.heap.size w w1) => fewN_any na nl nc ns (by omega) (fun x hx => by have := (fewN_len hfn).2 x hx; omega) w1.heap.size w1 (NT.out w1 hb))
  rw [hfn] at FN
  have OS := Lib.hid (fun (w1 : World) (hb : Below w.heap.size w w1) => of_any a ss.length cap ss (by omega) w1 (LT.out w1 hb))
  have GE := Lib.hid (fun (w1 : World) (hb : Below w.heap.size w w1) => get_any a ss.length cap ss (by omega) n w1 (LT.out w1 hb))
  have RG := Lib.hid (fun (w1 : World) a1 c1 (h : Labs w1.heap.size w1 (.slice a1 ss.length c1) ss) => rget_any a1 ss.length c1 ss (by omega) n w1.heap.size w1 h)
  have ON := Lib.hid (fun (w1 : World) (hb : Below w.heap.size w w1) => only_any a na ss.length cap nl nc ns ss (by omega) w1 (LT.out w1 hb) ((NT.out w1 hb).few (by omega)))
  have RO := Lib.hid (fun (w1 : World) a1 c1 (hb : Below w.heap.size w w1) (h : Labs w1.heap.size w1 (.slice a1 ss.length c1) ss) => ronly_any a1 na ss.length c1 nl nc ns ss (by omega) w1 h ((NT.out w1 hb).few (by omega)))
  have WO := Lib.hid (fun (w1 : World) (hb : Below w.heap.size w w1) => without_any a na ss.length cap nl nc ns ss (by omega) w1 (LT.out w1 hb) ((NT.out w1 hb).few (by omega)))
  have RW := Lib.hid (fun (w1 : World) a1 c1 (hb : Below w.heap.size w w1) (h : Labs w1.heap.size w1 (.slice a1 ss.length c1) ss) => rwithout_any a1 na ss.length c1 nl nc ns ss (by omega) w1 h ((NT.out w1 hb).few (by omega)))
  have h1l : (ss.filter (keepB ns true)).length ≤ 100 := by have := List.length_filter_le (keepB ns true) ss; omega
  have h2l : (ss.filter (keepB ns false)).length ≤ 100 := by have := List.length_filter_le (keepB ns false) ss; omega
  have OO := Lib.hid (fun (w1 : World) a1 c1 (h : Labs w1.heap.size w1 (.slice a1 (ss.filter (keepB ns true)).length c1) (ss.filter (keepB ns true))) => of_any a1 _ c1 _ h1l w1 h)
  have OW := Lib.hid (fun (w1 : World) a1 c1 (h : Labs w1.heap.size w1 (.slice a1 (ss.filter (keepB ns false)).length c1) (ss.filter (keepB ns false))) => of_any a1 _ c1 _ h2l w1 h)
  have S1 := Lib.hid (fun (w1 : World) a1 c1 a2 c2 h h' => same_true a1 a2 c1 c2 (ss.filter (keepB ns true)) h1l w1 h h')
  have S2 := Lib.hid (fun (w1 : World) a1 c1 a2 c2 h h' => same_true a1 a2 c1 c2 (ss.filter (keepB ns false)) h2l w1 h h')
  have S0 := Lib.hid (fun (w1 : World) a1 c1 a2 c2 h h' => same_true a1 a2 c1 c2 ss (by omega) w1 h h')
  have NM := Lib.hid (fun W => rname_any n (by omega) W)
  have VL := Lib.hid (fun W => rvalue_any v (by omega) W)
  rw [hm] at NM
  rw [hz] at VL
  have qv : (v == []) = false := by rw [beq_eq_false_iff_ne]; exact hy
  generalize ss.filter (keepB ns true) = fo at *
  generalize ss.filter (keepB ns false) = fw at *
  generalize getR n ss = G at *
  have eg : (⟨G.toArray⟩ : ByteArray).toList = G := by rw [ByteArray.toList_eq]
  have ev : (⟨v.toArray⟩ : ByteArray).toList = v := by rw [ByteArray.toList_eq]
  have e0 : (⟨#[]⟩ : ByteArray).toList = [] := by rw [ByteArray.toList_eq]
  have qg : (G != G) = false := by simp
  clear hI hf hc hN hfn hnl LT NT h1l h2l hm hy hz
  go_enter Tryd.func4, Tryd.ntmps4
  go_wp2_with fail
  refine (K.out).mono ?_
  rintro e w1 ⟨rfl, B⟩
  go_wp2_with fail
  refine (GD.out _ B).mono ?_
  rintro e w2 ⟨rfl, hb⟩
  have B := below_then B hb
  clear hb
  go_wp2_with fail
  refine (FN.out _ B).mono ?_
  rintro e w3 ⟨rfl, rfl⟩
  go_wp2_with fail
  refine (OS.out _ B).mono ?_
  rintro e w4 ⟨v4, rfl, hr, hb⟩
  have B := below_then B hb
  clear hb
  have P := labs_of_row9 hr
  obtain ⟨a4, c4, rfl⟩ := slice_of P
  clear hr
  go_wp2_with fail
  refine (GE.out _ B).mono ?_
  rintro e w5 ⟨rfl, hb⟩
  have P := labs_later P hb
  have B := below_then B hb
  clear hb
  go_wp2_with fail
  refine (RG.out _ _ _ P).mono ?_
  rintro e w6 ⟨rfl, rfl⟩
  go_wp2_with fail
  refine (ON.out _ B).mono ?_
  rintro e w7 ⟨v7, rfl, hr, hb⟩
  have P := labs_later P hb
  have B := below_then B hb
  clear hb
  have U := labs_of_row hr
  obtain ⟨a7, c7, rfl⟩ := slice_of U
  clear hr
  go_wp2_with fail
  refine (OO.out _ _ _ U).mono ?_
  rintro e w8 ⟨v8, rfl, hr, hb⟩
  have P := labs_later P hb
  have U := labs_later U hb
  have B := below_then B hb
  clear hb
  have Q := labs_of_row9 hr
  obtain ⟨a8, c8, rfl⟩ := slice_of Q
  clear hr
  clear U
  go_wp2_with fail
  refine (RO.out _ _ _ B P).mono ?_
  rintro e w9 ⟨v9, rfl, hr, hb⟩
  have P := labs_later P hb
  have Q := labs_later Q hb
  have B := below_then B hb
  clear hb
  have R := labs_of_row9 hr
  obtain ⟨a9, c9, rfl⟩ := slice_of R
  clear hr
  go_wp2_with fail
  refine (S1.out _ _ _ _ _ Q R).mono ?_
  rintro e w10 ⟨rfl, hb⟩
  have P := labs_later P hb
  have Q := labs_later Q hb
  have R := labs_later R hb
  have B := below_then B hb
  clear hb
  clear Q R
  go_wp2_with fail
  refine (WO.out _ B).mono ?_
  rintro e w11 ⟨v11, rfl, hr, hb⟩
  have P := labs_later P hb
  have B := below_then B hb
  clear hb
  have U := labs_of_row hr
  obtain ⟨a11, c11, rfl⟩ := slice_of U
  clear hr
  go_wp2_with fail
  refine (OW.out _ _ _ U).mono ?_
  rintro e w12 ⟨v12, rfl, hr, hb⟩
  have P := labs_later P hb
  have U := labs_later U hb
  have B := below_then B hb
  clear hb
  have Q := labs_of_row9 hr
  obtain ⟨a12, c12, rfl⟩ := slice_of Q
  clear hr
  clear U
  go_wp2_with fail
  refine (RW.out _ _ _ B P).mono ?_
  rintro e w13 ⟨v13, rfl, hr, hb⟩
  have P := labs_later P hb
  have Q := labs_later Q hb
  have B := below_then B hb
  clear hb
  have R := labs_of_row9 hr
  obtain ⟨a13, c13, rfl⟩ := slice_of R
  clear hr
  go_wp2_with fail
  refine (S2.out _ _ _ _ _ Q R).mono ?_
  rintro e w14 ⟨rfl, hb⟩
  have P := labs_later P hb
  have Q := labs_later Q hb
  have R := labs_later R hb
  have B := below_then B hb
  clear hb
  clear Q R
  go_wp2_with fail
  refine (NM.out _).mono ?_
  rintro e w15 ⟨rfl, rfl⟩
  go_wp2_with fail
  refine (VL.out _).mono ?_
  rintro e w16 ⟨rfl, rfl⟩
  go_wp2_with fail
  refine (OS.out _ B).mono ?_
  rintro e w17 ⟨v17, rfl, hr, hb⟩
  have P := labs_later P hb
  have B := below_then B hb
  clear hb
  have Q := labs_of_row9 hr
  obtain ⟨a17, c17, rfl⟩ := slice_of Q
  clear hr
  go_wp2_with fail
  refine (S0.out _ _ _ _ _ Q P).mono ?_
  rintro e w18 ⟨rfl, hb⟩
  have P := labs_later P hb
  have Q := labs_later Q hb
  have B := below_then B hb
  clear hb
  clear Q P
  go_wp2
  go_ret
  exact ⟨rfl, B⟩
set_option maxHeartbeats 16000000 in
theorem parts_c (a na : Option Addr) (len cap nl nc : Nat) (ss : List SLab) (hss : ss.length ≤ 30) (hf : fewR (ss.map (·.1)) = true) (n v : List UInt8) (hc : checkR ss = 0) (hn : ¬ 100 < n.length) (hv : ¬ 200 < v.length) (ns : List (List UInt8)) (hnl : ns.length ≤ 30) (hfn : fewN ns = true) (hm : nameR n = true) (hy : v = []) (w : World) (hI : Labs w.heap.size w (.slice a len cap) ss) (hN : NamesG w.heap.size w (.slice na nl nc) ns) :
    Calls Tryd.prog 4 #[.slice a len cap, .string ⟨n.toArray⟩, .string ⟨v.toArray⟩, .slice na nl nc] w fun e w' => e = .returned (.bool true) ∧ Below w.heap.size w w' := by
  obtain rfl : len = ss.length := hI.len
  have K := Lib.hid (known_any w)
  have GD := Lib.hid (fun (w1 : World) (hb : Below w.heap.size w w1) => good_any a ss.length cap ss (by omega) hf w1 (labs_later hI hb))
  rw [show (checkR ss == 0) = true from by rw [beq_iff_eq]; exact hc] at GD
  have p1 : ¬ (100 : Int) < (n.length : Int) := by omega
  have p2 : ¬ (200 : Int) < (v.length : Int) := by omega
  have NT := Lib.hid (fun (w1 : World) (hb : Below w.heap.size w w1) => hN.later hb)
  have LT := Lib.hid (fun (w1 : World) (hb : Below w.heap.size w w1) => labs_later hI hb)
  have FN := Lib.hid (fun (w1 : World) (hb : Below w.heap.size w w1) => fewN_any na nl nc ns (by omega) (fun x hx => by have := (fewN_len hfn).2 x hx; omega) w1.heap.size w1 (NT.out w1 hb))
  rw [hfn] at FN
  have OS := Lib.hid (fun (w1 : World) (hb : Below w.heap.size w w1) => of_any a ss.length cap ss (by omega) w1 (LT.out w1 hb))
  have GE := Lib.hid (fun (w1 : World) (hb : Below w.heap.size w w1) => get_any a ss.length cap ss (by omega) n w1 (LT.out w1 hb))
  have RG := Lib.hid (fun (w1 : World) a1 c1 (h : Labs w1.heap.size w1 (.slice a1 ss.length c1) ss) => rget_any a1 ss.length c1 ss (by omega) n w1.heap.size w1 h)
  have ON := Lib.hid (fun (w1 : World) (hb : Below w.heap.size w w1) => only_any a na ss.length cap nl nc ns ss (by omega) w1 (LT.out w1 hb) ((NT.out w1 hb).few (by omega)))
  have RO := Lib.hid (fun (w1 : World) a1 c1 (hb : Below w.heap.size w w1) (h : Labs w1.heap.size w1 (.slice a1 ss.length c1) ss) => ronly_any a1 na ss.length c1 nl nc ns ss (by omega) w1 h ((NT.out w1 hb).few (by omega)))
  have WO := Lib.hid (fun (w1 : World) (hb : Below w.heap.size w w1) => without_any a na ss.length cap nl nc ns ss (by omega) w1 (LT.out w1 hb) ((NT.out w1 hb).few (by omega)))
  have RW := Lib.hid (fun (w1 : World) a1 c1 (hb : Below w.heap.size w w1) (h : Labs w1.heap.size w1 (.slice a1 ss.length c1) ss) => rwithout_any a1 na ss.length c1 nl nc ns ss (by omega) w1 h ((NT.out w1 hb).few (by omega)))
  have h1l : (ss.filter (keepB ns true)).length ≤ 100 := by have := List.length_filter_le (keepB ns true) ss; omega
  have h2l : (ss.filter (keepB ns false)).length ≤ 100 := by have := List.length_filter_le (keepB ns false) ss; omega
  have OO := Lib.hid (fun (w1 : World) a1 c1 (h : Labs w1.heap.size w1 (.slice a1 (ss.filter (keepB ns true)).length c1) (ss.filter (keepB ns true))) => of_any a1 _ c1 _ h1l w1 h)
  have OW := Lib.hid (fun (w1 : World) a1 c1 (h : Labs w1.heap.size w1 (.slice a1 (ss.filter (keepB ns false)).length c1) (ss.filter (keepB ns false))) => of_any a1 _ c1 _ h2l w1 h)
  have S1 := Lib.hid (fun (w1 : World) a1 c1 a2 c2 h h' => same_true a1 a2 c1 c2 (ss.filter (keepB ns true)) h1l w1 h h')
  have S2 := Lib.hid (fun (w1 : World) a1 c1 a2 c2 h h' => same_true a1 a2 c1 c2 (ss.filter (keepB ns false)) h2l w1 h h')
  have S0 := Lib.hid (fun (w1 : World) a1 c1 a2 c2 h h' => same_true a1 a2 c1 c2 ss (by omega) w1 h h')
  have NM := Lib.hid (fun W => rname_any n (by omega) W)
  have VL := Lib.hid (fun W => rvalue_any v (by omega) W)
  have hs : Short (n, v) := ⟨by show n.length ≤ 200; omega, by show v.length ≤ 200; omega⟩
  obtain ⟨p, hp1, hp2, hp3⟩ := with_same ss (chk_rise ss [] (check_zero hc).2).2 n v hs
  have WA := Lib.hid (fun (w1 : World) (hb : Below w.heap.size w w1) => with_any a ss.length cap ss (by omega) n v hs p hp1 hp2 w1 (LT.out w1 hb))
  have RA := Lib.hid (fun (w1 : World) a1 c1 (h : Labs w1.heap.size w1 (.slice a1 ss.length c1) ss) => rwith_any a1 ss.length c1 ss (by omega) n v hs w1 h)
  rw [← hp3] at RA
  have hwl := withR_len ss n v hs p
  generalize withR ss n v hs p = wl at *
  have OA := Lib.hid (fun (w1 : World) a1 c1 (h : Labs w1.heap.size w1 (.slice a1 wl.length c1) wl) => of_any a1 wl.length c1 wl (by omega) w1 h)
  have S3 := Lib.hid (fun (w1 : World) a1 c1 a2 c2 h h' => same_true a1 a2 c1 c2 wl (by omega) w1 h h')
  clear hp1 hp2 hp3 hwl hs
  rw [hm] at NM
  have qv : (v == []) = true := by rw [beq_iff_eq]; exact hy
  generalize ss.filter (keepB ns true) = fo at *
  generalize ss.filter (keepB ns false) = fw at *
  generalize getR n ss = G at *
  have eg : (⟨G.toArray⟩ : ByteArray).toList = G := by rw [ByteArray.toList_eq]
  have ev : (⟨v.toArray⟩ : ByteArray).toList = v := by rw [ByteArray.toList_eq]
  have e0 : (⟨#[]⟩ : ByteArray).toList = [] := by rw [ByteArray.toList_eq]
  have qg : (G != G) = false := by simp
  clear hI hf hc hN hfn hnl LT NT h1l h2l hm hy
  go_enter Tryd.func4, Tryd.ntmps4
  go_wp2_with fail
  refine (K.out).mono ?_
  rintro e w1 ⟨rfl, B⟩
  go_wp2_with fail
  refine (GD.out _ B).mono ?_
  rintro e w2 ⟨rfl, hb⟩
  have B := below_then B hb
  clear hb
  go_wp2_with fail
  refine (FN.out _ B).mono ?_
  rintro e w3 ⟨rfl, rfl⟩
  go_wp2_with fail
  refine (OS.out _ B).mono ?_
  rintro e w4 ⟨v4, rfl, hr, hb⟩
  have B := below_then B hb
  clear hb
  have P := labs_of_row9 hr
  obtain ⟨a4, c4, rfl⟩ := slice_of P
  clear hr
  go_wp2_with fail
  refine (GE.out _ B).mono ?_
  rintro e w5 ⟨rfl, hb⟩
  have P := labs_later P hb
  have B := below_then B hb
  clear hb
  go_wp2_with fail
  refine (RG.out _ _ _ P).mono ?_
  rintro e w6 ⟨rfl, rfl⟩
  go_wp2_with fail
  refine (ON.out _ B).mono ?_
  rintro e w7 ⟨v7, rfl, hr, hb⟩
  have P := labs_later P hb
  have B := below_then B hb
  clear hb
  have U := labs_of_row hr
  obtain ⟨a7, c7, rfl⟩ := slice_of U
  clear hr
  go_wp2_with fail
  refine (OO.out _ _ _ U).mono ?_
  rintro e w8 ⟨v8, rfl, hr, hb⟩
  have P := labs_later P hb
  have U := labs_later U hb
  have B := below_then B hb
  clear hb
  have Q := labs_of_row9 hr
  obtain ⟨a8, c8, rfl⟩ := slice_of Q
  clear hr
  clear U
  go_wp2_with fail
  refine (RO.out _ _ _ B P).mono ?_
  rintro e w9 ⟨v9, rfl, hr, hb⟩
  have P := labs_later P hb
  have Q := labs_later Q hb
  have B := below_then B hb
  clear hb
  have R := labs_of_row9 hr
  obtain ⟨a9, c9, rfl⟩ := slice_of R
  clear hr
  go_wp2_with fail
  refine (S1.out _ _ _ _ _ Q R).mono ?_
  rintro e w10 ⟨rfl, hb⟩
  have P := labs_later P hb
  have Q := labs_later Q hb
  have R := labs_later R hb
  have B := below_then B hb
  clear hb
  clear Q R
  go_wp2_with fail
  refine (WO.out _ B).mono ?_
  rintro e w11 ⟨v11, rfl, hr, hb⟩
  have P := labs_later P hb
  have B := below_then B hb
  clear hb
  have U := labs_of_row hr
  obtain ⟨a11, c11, rfl⟩ := slice_of U
  clear hr
  go_wp2_with fail
  refine (OW.out _ _ _ U).mono ?_
  rintro e w12 ⟨v12, rfl, hr, hb⟩
  have P := labs_later P hb
  have U := labs_later U hb
  have B := below_then B hb
  clear hb
  have Q := labs_of_row9 hr
  obtain ⟨a12, c12, rfl⟩ := slice_of Q
  clear hr
  clear U
  go_wp2_with fail
  refine (RW.out _ _ _ B P).mono ?_
  rintro e w13 ⟨v13, rfl, hr, hb⟩
  have P := labs_later P hb
  have Q := labs_later Q hb
  have B := below_then B hb
  clear hb
  have R := labs_of_row9 hr
  obtain ⟨a13, c13, rfl⟩ := slice_of R
  clear hr
  go_wp2_with fail
  refine (S2.out _ _ _ _ _ Q R).mono ?_
  rintro e w14 ⟨rfl, hb⟩
  have P := labs_later P hb
  have Q := labs_later Q hb
  have R := labs_later R hb
  have B := below_then B hb
  clear hb
  clear Q R
  go_wp2_with fail
  refine (NM.out _).mono ?_
  rintro e w15 ⟨rfl, rfl⟩
  go_wp2_with fail
  refine (WA.out _ B).mono ?_
  rintro e w16 ⟨v16, rfl, hr, hb⟩
  have P := labs_later P hb
  have B := below_then B hb
  clear hb
  have U := labs_of_row hr
  obtain ⟨a16, c16, rfl⟩ := slice_of U
  clear hr
  go_wp2_with fail
  refine (OA.out _ _ _ U).mono ?_
  rintro e w17 ⟨v17, rfl, hr, hb⟩
  have P := labs_later P hb
  have U := labs_later U hb
  have B := below_then B hb
  clear hb
  have Q := labs_of_row9 hr
  obtain ⟨a17, c17, rfl⟩ := slice_of Q
  clear hr
  clear U
  go_wp2_with fail
  refine (RA.out _ _ _ P).mono ?_
  rintro e w18 ⟨v18, rfl, hr, hb⟩
  have P := labs_later P hb
  have Q := labs_later Q hb
  have B := below_then B hb
  clear hb
  have R := labs_of_row9 hr
  obtain ⟨a18, c18, rfl⟩ := slice_of R
  clear hr
  go_wp2_with fail
  refine (S3.out _ _ _ _ _ Q R).mono ?_
  rintro e w19 ⟨rfl, hb⟩
  have P := labs_later P hb
  have Q := labs_later Q hb
  have R := labs_later R hb
  have B := below_then B hb
  clear hb
  clear Q R
  go_wp2_with fail
  refine (OS.out _ B).mono ?_
  rintro e w20 ⟨v20, rfl, hr, hb⟩
  have P := labs_later P hb
  have B := below_then B hb
  clear hb
  have Q := labs_of_row9 hr
  obtain ⟨a20, c20, rfl⟩ := slice_of Q
  clear hr
  go_wp2_with fail
  refine (S0.out _ _ _ _ _ Q P).mono ?_
  rintro e w21 ⟨rfl, hb⟩
  have P := labs_later P hb
  have Q := labs_later Q hb
  have B := below_then B hb
  clear hb
  clear Q P
  go_wp2
  go_ret
  exact ⟨rfl, B⟩
set_option maxHeartbeats 16000000 in
theorem parts_d (a na : Option Addr) (len cap nl nc : Nat) (ss : List SLab) (hss : ss.length ≤ 30) (hf : fewR (ss.map (·.1)) = true) (n v : List UInt8) (hc : checkR ss = 0) (hn : ¬ 100 < n.length) (hv : ¬ 200 < v.length) (ns : List (List UInt8)) (hnl : ns.length ≤ 30) (hfn : fewN ns = true) (hm : nameR n = true) (hy : v ≠ []) (hz : valueR v = true) (w : World) (hI : Labs w.heap.size w (.slice a len cap) ss) (hN : NamesG w.heap.size w (.slice na nl nc) ns) :
    Calls Tryd.prog 4 #[.slice a len cap, .string ⟨n.toArray⟩, .string ⟨v.toArray⟩, .slice na nl nc] w fun e w' => e = .returned (.bool true) ∧ Below w.heap.size w w' := by
  obtain rfl : len = ss.length := hI.len
  have K := Lib.hid (known_any w)
  have GD := Lib.hid (fun (w1 : World) (hb : Below w.heap.size w w1) => good_any a ss.length cap ss (by omega) hf w1 (labs_later hI hb))
  rw [show (checkR ss == 0) = true from by rw [beq_iff_eq]; exact hc] at GD
  have p1 : ¬ (100 : Int) < (n.length : Int) := by omega
  have p2 : ¬ (200 : Int) < (v.length : Int) := by omega
  have NT := Lib.hid (fun (w1 : World) (hb : Below w.heap.size w w1) => hN.later hb)
  have LT := Lib.hid (fun (w1 : World) (hb : Below w.heap.size w w1) => labs_later hI hb)
  have FN := Lib.hid (fun (w1 : World) (hb : Below w.heap.size w w1) => fewN_any na nl nc ns (by omega) (fun x hx => by have := (fewN_len hfn).2 x hx; omega) w1.heap.size w1 (NT.out w1 hb))
  rw [hfn] at FN
  have OS := Lib.hid (fun (w1 : World) (hb : Below w.heap.size w w1) => of_any a ss.length cap ss (by omega) w1 (LT.out w1 hb))
  have GE := Lib.hid (fun (w1 : World) (hb : Below w.heap.size w w1) => get_any a ss.length cap ss (by omega) n w1 (LT.out w1 hb))
  have RG := Lib.hid (fun (w1 : World) a1 c1 (h : Labs w1.heap.size w1 (.slice a1 ss.length c1) ss) => rget_any a1 ss.length c1 ss (by omega) n w1.heap.size w1 h)
  have ON := Lib.hid (fun (w1 : World) (hb : Below w.heap.size w w1) => only_any a na ss.length cap nl nc ns ss (by omega) w1 (LT.out w1 hb) ((NT.out w1 hb).few (by omega)))
  have RO := Lib.hid (fun (w1 : World) a1 c1 (hb : Below w.heap.size w w1) (h : Labs w1.heap.size w1 (.slice a1 ss.length c1) ss) => ronly_any a1 na ss.length c1 nl nc ns ss (by omega) w1 h ((NT.out w1 hb).few (by omega)))
  have WO := Lib.hid (fun (w1 : World) (hb : Below w.heap.size w w1) => without_any a na ss.length cap nl nc ns ss (by omega) w1 (LT.out w1 hb) ((NT.out w1 hb).few (by omega)))
  have RW := Lib.hid (fun (w1 : World) a1 c1 (hb : Below w.heap.size w w1) (h : Labs w1.heap.size w1 (.slice a1 ss.length c1) ss) => rwithout_any a1 na ss.length c1 nl nc ns ss (by omega) w1 h ((NT.out w1 hb).few (by omega)))
  have h1l : (ss.filter (keepB ns true)).length ≤ 100 := by have := List.length_filter_le (keepB ns true) ss; omega
  have h2l : (ss.filter (keepB ns false)).length ≤ 100 := by have := List.length_filter_le (keepB ns false) ss; omega
  have OO := Lib.hid (fun (w1 : World) a1 c1 (h : Labs w1.heap.size w1 (.slice a1 (ss.filter (keepB ns true)).length c1) (ss.filter (keepB ns true))) => of_any a1 _ c1 _ h1l w1 h)
  have OW := Lib.hid (fun (w1 : World) a1 c1 (h : Labs w1.heap.size w1 (.slice a1 (ss.filter (keepB ns false)).length c1) (ss.filter (keepB ns false))) => of_any a1 _ c1 _ h2l w1 h)
  have S1 := Lib.hid (fun (w1 : World) a1 c1 a2 c2 h h' => same_true a1 a2 c1 c2 (ss.filter (keepB ns true)) h1l w1 h h')
  have S2 := Lib.hid (fun (w1 : World) a1 c1 a2 c2 h h' => same_true a1 a2 c1 c2 (ss.filter (keepB ns false)) h2l w1 h h')
  have S0 := Lib.hid (fun (w1 : World) a1 c1 a2 c2 h h' => same_true a1 a2 c1 c2 ss (by omega) w1 h h')
  have NM := Lib.hid (fun W => rname_any n (by omega) W)
  have VL := Lib.hid (fun W => rvalue_any v (by omega) W)
  have hs : Short (n, v) := ⟨by show n.length ≤ 200; omega, by show v.length ≤ 200; omega⟩
  obtain ⟨p, hp1, hp2, hp3⟩ := with_same ss (chk_rise ss [] (check_zero hc).2).2 n v hs
  have WA := Lib.hid (fun (w1 : World) (hb : Below w.heap.size w w1) => with_any a ss.length cap ss (by omega) n v hs p hp1 hp2 w1 (LT.out w1 hb))
  have RA := Lib.hid (fun (w1 : World) a1 c1 (h : Labs w1.heap.size w1 (.slice a1 ss.length c1) ss) => rwith_any a1 ss.length c1 ss (by omega) n v hs w1 h)
  rw [← hp3] at RA
  have hwl := withR_len ss n v hs p
  generalize withR ss n v hs p = wl at *
  have OA := Lib.hid (fun (w1 : World) a1 c1 (h : Labs w1.heap.size w1 (.slice a1 wl.length c1) wl) => of_any a1 wl.length c1 wl (by omega) w1 h)
  have S3 := Lib.hid (fun (w1 : World) a1 c1 a2 c2 h h' => same_true a1 a2 c1 c2 wl (by omega) w1 h h')
  clear hp1 hp2 hp3 hwl hs
  rw [hm] at NM
  rw [hz] at VL
  have qv : (v == []) = false := by rw [beq_eq_false_iff_ne]; exact hy
  generalize ss.filter (keepB ns true) = fo at *
  generalize ss.filter (keepB ns false) = fw at *
  generalize getR n ss = G at *
  have eg : (⟨G.toArray⟩ : ByteArray).toList = G := by rw [ByteArray.toList_eq]
  have ev : (⟨v.toArray⟩ : ByteArray).toList = v := by rw [ByteArray.toList_eq]
  have e0 : (⟨#[]⟩ : ByteArray).toList = [] := by rw [ByteArray.toList_eq]
  have qg : (G != G) = false := by simp
  clear hI hf hc hN hfn hnl LT NT h1l h2l hm hy hz
  go_enter Tryd.func4, Tryd.ntmps4
  go_wp2_with fail
  refine (K.out).mono ?_
  rintro e w1 ⟨rfl, B⟩
  go_wp2_with fail
  refine (GD.out _ B).mono ?_
  rintro e w2 ⟨rfl, hb⟩
  have B := below_then B hb
  clear hb
  go_wp2_with fail
  refine (FN.out _ B).mono ?_
  rintro e w3 ⟨rfl, rfl⟩
  go_wp2_with fail
  refine (OS.out _ B).mono ?_
  rintro e w4 ⟨v4, rfl, hr, hb⟩
  have B := below_then B hb
  clear hb
  have P := labs_of_row9 hr
  obtain ⟨a4, c4, rfl⟩ := slice_of P
  clear hr
  go_wp2_with fail
  refine (GE.out _ B).mono ?_
  rintro e w5 ⟨rfl, hb⟩
  have P := labs_later P hb
  have B := below_then B hb
  clear hb
  go_wp2_with fail
  refine (RG.out _ _ _ P).mono ?_
  rintro e w6 ⟨rfl, rfl⟩
  go_wp2_with fail
  refine (ON.out _ B).mono ?_
  rintro e w7 ⟨v7, rfl, hr, hb⟩
  have P := labs_later P hb
  have B := below_then B hb
  clear hb
  have U := labs_of_row hr
  obtain ⟨a7, c7, rfl⟩ := slice_of U
  clear hr
  go_wp2_with fail
  refine (OO.out _ _ _ U).mono ?_
  rintro e w8 ⟨v8, rfl, hr, hb⟩
  have P := labs_later P hb
  have U := labs_later U hb
  have B := below_then B hb
  clear hb
  have Q := labs_of_row9 hr
  obtain ⟨a8, c8, rfl⟩ := slice_of Q
  clear hr
  clear U
  go_wp2_with fail
  refine (RO.out _ _ _ B P).mono ?_
  rintro e w9 ⟨v9, rfl, hr, hb⟩
  have P := labs_later P hb
  have Q := labs_later Q hb
  have B := below_then B hb
  clear hb
  have R := labs_of_row9 hr
  obtain ⟨a9, c9, rfl⟩ := slice_of R
  clear hr
  go_wp2_with fail
  refine (S1.out _ _ _ _ _ Q R).mono ?_
  rintro e w10 ⟨rfl, hb⟩
  have P := labs_later P hb
  have Q := labs_later Q hb
  have R := labs_later R hb
  have B := below_then B hb
  clear hb
  clear Q R
  go_wp2_with fail
  refine (WO.out _ B).mono ?_
  rintro e w11 ⟨v11, rfl, hr, hb⟩
  have P := labs_later P hb
  have B := below_then B hb
  clear hb
  have U := labs_of_row hr
  obtain ⟨a11, c11, rfl⟩ := slice_of U
  clear hr
  go_wp2_with fail
  refine (OW.out _ _ _ U).mono ?_
  rintro e w12 ⟨v12, rfl, hr, hb⟩
  have P := labs_later P hb
  have U := labs_later U hb
  have B := below_then B hb
  clear hb
  have Q := labs_of_row9 hr
  obtain ⟨a12, c12, rfl⟩ := slice_of Q
  clear hr
  clear U
  go_wp2_with fail
  refine (RW.out _ _ _ B P).mono ?_
  rintro e w13 ⟨v13, rfl, hr, hb⟩
  have P := labs_later P hb
  have Q := labs_later Q hb
  have B := below_then B hb
  clear hb
  have R := labs_of_row9 hr
  obtain ⟨a13, c13, rfl⟩ := slice_of R
  clear hr
  go_wp2_with fail
  refine (S2.out _ _ _ _ _ Q R).mono ?_
  rintro e w14 ⟨rfl, hb⟩
  have P := labs_later P hb
  have Q := labs_later Q hb
  have R := labs_later R hb
  have B := below_then B hb
  clear hb
  clear Q R
  go_wp2_with fail
  refine (NM.out _).mono ?_
  rintro e w15 ⟨rfl, rfl⟩
  go_wp2_with fail
  refine (VL.out _).mono ?_
  rintro e w16 ⟨rfl, rfl⟩
  go_wp2_with fail
  refine (WA.out _ B).mono ?_
  rintro e w17 ⟨v17, rfl, hr, hb⟩
  have P := labs_later P hb
  have B := below_then B hb
  clear hb
  have U := labs_of_row hr
  obtain ⟨a17, c17, rfl⟩ := slice_of U
  clear hr
  go_wp2_with fail
  refine (OA.out _ _ _ U).mono ?_
  rintro e w18 ⟨v18, rfl, hr, hb⟩
  have P := labs_later P hb
  have U := labs_later U hb
  have B := below_then B hb
  clear hb
  have Q := labs_of_row9 hr
  obtain ⟨a18, c18, rfl⟩ := slice_of Q
  clear hr
  clear U
  go_wp2_with fail
  refine (RA.out _ _ _ P).mono ?_
  rintro e w19 ⟨v19, rfl, hr, hb⟩
  have P := labs_later P hb
  have Q := labs_later Q hb
  have B := below_then B hb
  clear hb
  have R := labs_of_row9 hr
  obtain ⟨a19, c19, rfl⟩ := slice_of R
  clear hr
  go_wp2_with fail
  refine (S3.out _ _ _ _ _ Q R).mono ?_
  rintro e w20 ⟨rfl, hb⟩
  have P := labs_later P hb
  have Q := labs_later Q hb
  have R := labs_later R hb
  have B := below_then B hb
  clear hb
  clear Q R
  go_wp2_with fail
  refine (OS.out _ B).mono ?_
  rintro e w21 ⟨v21, rfl, hr, hb⟩
  have P := labs_later P hb
  have B := below_then B hb
  clear hb
  have Q := labs_of_row9 hr
  obtain ⟨a21, c21, rfl⟩ := slice_of Q
  clear hr
  go_wp2_with fail
  refine (S0.out _ _ _ _ _ Q P).mono ?_
  rintro e w22 ⟨rfl, hb⟩
  have P := labs_later P hb
  have Q := labs_later Q hb
  have B := below_then B hb
  clear hb
  clear Q P
  go_wp2
  go_ret
  exact ⟨rfl, B⟩
theorem parts_law (a na : Option Addr) (len cap nl nc : Nat) (zs : List Lab) (hlen : zs.length ≤ 9223372036854775807) (hbig : ∀ x ∈ zs, x.1.length ≤ 9223372036854775807 ∧ x.2.length ≤ 9223372036854775807) (n v : List UInt8) (hn2 : n.length ≤ 9223372036854775807) (hv2 : v.length ≤ 9223372036854775807) (ns : List (List UInt8)) (hnl : ns.length ≤ 9223372036854775807) (hnb : ∀ x ∈ ns, x.length ≤ 9223372036854775807) (w : World) (hI : LabsG w.heap.size w (.slice a len cap) zs) (hN : NamesG w.heap.size w (.slice na nl nc) ns) :
    Calls Tryd.prog 4 #[.slice a len cap, .string ⟨n.toArray⟩, .string ⟨v.toArray⟩, .slice na nl nc] w fun e w' => e = .returned (.bool true) ∧ Below w.heap.size w w' := by
  cases hf : fewR zs
  · exact parts_no a na len cap nl nc zs hlen hbig n v hf w hI
  obtain ⟨ss, rfl, hss⟩ := few_short hf
  have hI := hI.toS
  by_cases hc : checkR ss = 0
  · by_cases hn : 100 < n.length
    · exact parts_name a na len cap nl nc ss hss hf n v hc hn hn2 w hI
    by_cases hv : 200 < v.length
    · exact parts_value a na len cap nl nc ss hss hf n v hc hn hv hv2 w hI
    cases hfn : fewN ns
    · exact parts_names a na len cap nl nc ss hss hf n v hc hn hv ns hnl hnb hfn w hI hN
    have h30 := (fewN_len hfn).1
    cases hm : nameR n
    · exact parts_a a na len cap nl nc ss hss hf n v hc hn hv ns h30 hfn hm w hI hN
    by_cases hy : v = []
    · exact parts_c a na len cap nl nc ss hss hf n v hc hn hv ns h30 hfn hm hy w hI hN
    cases hz : valueR v
    · exact parts_b a na len cap nl nc ss hss hf n v hc hn hv ns h30 hfn hm hy hz w hI hN
    · exact parts_d a na len cap nl nc ss hss hf n v hc hn hv ns h30 hfn hm hy hz w hI hN
  · exact parts_bad a na len cap nl nc ss hss hf n v hc w hI
end Go.Proofs.YtmcmgmpgmbljiaaDoor
