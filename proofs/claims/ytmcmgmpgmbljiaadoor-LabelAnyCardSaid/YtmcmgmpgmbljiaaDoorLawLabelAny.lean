/- belfrylaw3.LabelAny. -/
import Derived.Test.YtmcmgmpgmbljiaaDoorLawLabelSplit
import Derived.Test.YtmcmgmpgmbljiaaDoorRefU
namespace Go.Proofs.YtmcmgmpgmbljiaaDoor
open Go Go.Proofs Go.RowKit Go.Shelf
set_option maxRecDepth 100000
theorem any_few1 (sa ta : Option Addr) (sl sc tl tc : Nat) (ss : List Lab) (hsl : ss.length ≤ 9223372036854775807) (hsb : ∀ x ∈ ss, x.1.length ≤ 9223372036854775807 ∧ x.2.length ≤ 9223372036854775807) (n : Int) (hf : fewR ss = false) (w : World) (hs : LabsG w.heap.size w (.slice sa sl sc) ss) :
    Calls Tryd.prog 3 #[.slice sa sl sc, .slice ta tl tc, .int .i64 n] w fun e w' => e = .returned (.bool true) ∧ Below w.heap.size w w' := by
  have K := Lib.hid (known_any w)
  have FS := Lib.hid (fun (w1 : World) (hb : Below w.heap.size w w1) => few_any sa sl sc ss hsl hsb w1.heap.size w1 (labsG_later hs hb))
  rw [hf] at FS
  clear hs hsb
  go_enter Tryd.func3, Tryd.ntmps3
  go_wp2_with fail
  refine (K.out).mono ?_
  rintro e w1 ⟨rfl, B⟩
  go_wp2_with fail
  refine (FS.out _ B).mono ?_
  rintro e w2 ⟨rfl, rfl⟩
  go_wp2
  go_ret
  exact ⟨rfl, B⟩
theorem any_few2 (sa ta : Option Addr) (sl sc tl tc : Nat) (ss ts : List Lab) (hsl : ss.length ≤ 9223372036854775807) (hsb : ∀ x ∈ ss, x.1.length ≤ 9223372036854775807 ∧ x.2.length ≤ 9223372036854775807) (htl : ts.length ≤ 9223372036854775807) (htb : ∀ x ∈ ts, x.1.length ≤ 9223372036854775807 ∧ x.2.length ≤ 9223372036854775807) (n : Int) (hf : fewR ss = true) (hg : fewR ts = false) (w : World) (hs : LabsG w.heap.size w (.slice sa sl sc) ss) (ht : LabsG w.heap.size w (.slice ta tl tc) ts) :
    Calls Tryd.prog 3 #[.slice sa sl sc, .slice ta tl tc, .int .i64 n] w fun e w' => e = .returned (.bool true) ∧ Below w.heap.size w w' := by
  have K := Lib.hid (known_any w)
  have FS := Lib.hid (fun (w1 : World) (hb : Below w.heap.size w w1) => few_any sa sl sc ss hsl hsb w1.heap.size w1 (labsG_later hs hb))
  have FT := Lib.hid (fun (w1 : World) (hb : Below w.heap.size w w1) => few_any ta tl tc ts htl htb w1.heap.size w1 (labsG_later ht hb))
  rw [hf] at FS
  rw [hg] at FT
  clear hs hsb ht htb
  go_enter Tryd.func3, Tryd.ntmps3
  go_wp2_with fail
  refine (K.out).mono ?_
  rintro e w1 ⟨rfl, B⟩
  go_wp2_with fail
  refine (FS.out _ B).mono ?_
  rintro e w2 ⟨rfl, rfl⟩
  go_wp2_with fail
  refine (FT.out _ B).mono ?_
  rintro e w3 ⟨rfl, rfl⟩
  go_wp2
  go_ret
  exact ⟨rfl, B⟩
theorem few_of {a : Option Addr} {len cap : Nat} {ss : List SLab} (hl : ss.length ≤ 30) (hf : fewR (ss.map (·.1)) = true) {w : World} (h : Labs w.heap.size w (.slice a len cap) ss) (w1 : World) (hb : Below w.heap.size w w1) :
    Calls Tryd.prog 9 #[.slice a len cap] w1 fun e w' => e = .returned (.bool true) ∧ w1 = w' := by
  have := few_any a len cap (ss.map (·.1)) (by rw [List.length_map]; omega) (fun x hx => by
    obtain ⟨y, _, rfl⟩ := List.mem_map.1 hx
    have := y.2
    unfold Short at this
    omega) w1.heap.size w1 (labs_later h hb).toG
  rw [hf] at this
  exact this
set_option maxHeartbeats 2000000 in
theorem any_bad1 (sa ta : Option Addr) (sl sc tl tc : Nat) (ss ts : List SLab) (hsl : ss.length ≤ 30) (hfs : fewR (ss.map (·.1)) = true) (htl : ts.length ≤ 30) (hft : fewR (ts.map (·.1)) = true) (n : Int) (hc : checkR ss ≠ 0) (w : World) (hs : Labs w.heap.size w (.slice sa sl sc) ss) (ht : Labs w.heap.size w (.slice ta tl tc) ts) :
    Calls Tryd.prog 3 #[.slice sa sl sc, .slice ta tl tc, .int .i64 n] w fun e w' => e = .returned (.bool true) ∧ Below w.heap.size w w' := by
  have K := Lib.hid (known_any w)
  obtain rfl : sl = ss.length := hs.len
  have LS := Lib.hid (fun (w1 : World) (hb : Below w.heap.size w w1) => labs_later hs hb)
  have FS := Lib.hid (fun (w1 : World) (hb : Below w.heap.size w w1) => few_of hsl hfs hs w1 hb)
  have OS := Lib.hid (fun (w1 : World) (hb : Below w.heap.size w w1) => of_any sa ss.length sc ss (by omega) w1 (LS.out w1 hb))
  obtain rfl : tl = ts.length := ht.len
  have LT := Lib.hid (fun (w1 : World) (hb : Below w.heap.size w w1) => labs_later ht hb)
  have FT := Lib.hid (fun (w1 : World) (hb : Below w.heap.size w w1) => few_of htl hft ht w1 hb)
  have OT := Lib.hid (fun (w1 : World) (hb : Below w.heap.size w w1) => of_any ta ts.length tc ts (by omega) w1 (LT.out w1 hb))
  have RS := Lib.hid (fun (w1 : World) a1 c1 (h : Labs w1.heap.size w1 (.slice a1 ss.length c1) ss) => rcheck_any a1 ss.length c1 ss (by omega) w1 h)
  have CS := Lib.hid (fun (w1 : World) (hb : Below w.heap.size w w1) => check_any sa ss.length sc ss (by omega) w1 (LS.out w1 hb))
  have hc0 : (checkR ss != 0) = true := by rw [bne_iff_ne]; exact hc
  generalize checkR ss = c at *
  clear hs ht hfs hft hc LT OT
  go_enter Tryd.func3, Tryd.ntmps3
  go_wp2_with fail
  refine (K.out).mono ?_
  rintro e w1 ⟨rfl, B⟩
  go_wp2_with fail
  refine (FS.out _ B).mono ?_
  rintro e w2 ⟨rfl, rfl⟩
  go_wp2_with fail
  refine (FT.out _ B).mono ?_
  rintro e w3 ⟨rfl, rfl⟩
  go_wp2_with fail
  refine (OS.out _ B).mono ?_
  rintro e w4 ⟨v, rfl, hr, hb⟩
  have B := below_then B hb
  clear hb
  have P := labs_of_row9 hr
  obtain ⟨pa, pc, rfl⟩ := slice_of P
  clear hr
  go_wp2_with fail
  refine (RS.out _ _ _ P).mono ?_
  rintro e w5 ⟨rfl, hb⟩
  have P := labs_later P hb
  have B := below_then B hb
  clear hb
  clear P
  go_wp2_with fail
  refine (CS.out _ B).mono ?_
  rintro e w6 ⟨rfl, hb⟩
  have B := below_then B hb
  clear hb
  go_wp2
  go_ret
  exact ⟨rfl, B⟩
set_option maxHeartbeats 2000000 in
theorem any_bad2 (sa ta : Option Addr) (sl sc tl tc : Nat) (ss ts : List SLab) (hsl : ss.length ≤ 30) (hfs : fewR (ss.map (·.1)) = true) (htl : ts.length ≤ 30) (hft : fewR (ts.map (·.1)) = true) (n : Int) (hc : checkR ss = 0) (hd : checkR ts ≠ 0) (w : World) (hs : Labs w.heap.size w (.slice sa sl sc) ss) (ht : Labs w.heap.size w (.slice ta tl tc) ts) :
    Calls Tryd.prog 3 #[.slice sa sl sc, .slice ta tl tc, .int .i64 n] w fun e w' => e = .returned (.bool true) ∧ Below w.heap.size w w' := by
  have K := Lib.hid (known_any w)
  obtain rfl : sl = ss.length := hs.len
  have LS := Lib.hid (fun (w1 : World) (hb : Below w.heap.size w w1) => labs_later hs hb)
  have FS := Lib.hid (fun (w1 : World) (hb : Below w.heap.size w w1) => few_of hsl hfs hs w1 hb)
  have OS := Lib.hid (fun (w1 : World) (hb : Below w.heap.size w w1) => of_any sa ss.length sc ss (by omega) w1 (LS.out w1 hb))
  obtain rfl : tl = ts.length := ht.len
  have LT := Lib.hid (fun (w1 : World) (hb : Below w.heap.size w w1) => labs_later ht hb)
  have FT := Lib.hid (fun (w1 : World) (hb : Below w.heap.size w w1) => few_of htl hft ht w1 hb)
  have OT := Lib.hid (fun (w1 : World) (hb : Below w.heap.size w w1) => of_any ta ts.length tc ts (by omega) w1 (LT.out w1 hb))
  have RS := Lib.hid (fun (w1 : World) a1 c1 (h : Labs w1.heap.size w1 (.slice a1 ss.length c1) ss) => rcheck_any a1 ss.length c1 ss (by omega) w1 h)
  have CS := Lib.hid (fun (w1 : World) (hb : Below w.heap.size w w1) => check_any sa ss.length sc ss (by omega) w1 (LS.out w1 hb))
  have RT := Lib.hid (fun (w1 : World) a1 c1 (h : Labs w1.heap.size w1 (.slice a1 ts.length c1) ts) => rcheck_any a1 ts.length c1 ts (by omega) w1 h)
  rw [hc] at RS CS
  have hc0 : (checkR ts != 0) = true := by rw [bne_iff_ne]; exact hd
  generalize checkR ts = c at *
  clear hs ht hfs hft hc hd
  go_enter Tryd.func3, Tryd.ntmps3
  go_wp2_with fail
  refine (K.out).mono ?_
  rintro e w1 ⟨rfl, B⟩
  go_wp2_with fail
  refine (FS.out _ B).mono ?_
  rintro e w2 ⟨rfl, rfl⟩
  go_wp2_with fail
  refine (FT.out _ B).mono ?_
  rintro e w3 ⟨rfl, rfl⟩
  go_wp2_with fail
  refine (OS.out _ B).mono ?_
  rintro e w4 ⟨v, rfl, hr, hb⟩
  have B := below_then B hb
  clear hb
  have P := labs_of_row9 hr
  obtain ⟨pa, pc, rfl⟩ := slice_of P
  clear hr
  go_wp2_with fail
  refine (RS.out _ _ _ P).mono ?_
  rintro e w5 ⟨rfl, hb⟩
  have P := labs_later P hb
  have B := below_then B hb
  clear hb
  clear P
  go_wp2_with fail
  refine (CS.out _ B).mono ?_
  rintro e w6 ⟨rfl, hb⟩
  have B := below_then B hb
  clear hb
  go_wp2_with fail
  refine (OT.out _ B).mono ?_
  rintro e w7 ⟨v, rfl, hr, hb⟩
  have B := below_then B hb
  clear hb
  have P := labs_of_row9 hr
  obtain ⟨qa, qc, rfl⟩ := slice_of P
  clear hr
  go_wp2_with fail
  refine (RT.out _ _ _ P).mono ?_
  rintro e w8 ⟨rfl, hb⟩
  have P := labs_later P hb
  have B := below_then B hb
  clear hb
  clear P
  go_wp2
  go_ret
  exact ⟨rfl, B⟩
set_option maxHeartbeats 16000000 in
theorem any_good (sa ta : Option Addr) (sl sc tl tc : Nat) (ss ts : List SLab) (hsl : ss.length ≤ 30) (hfs : fewR (ss.map (·.1)) = true) (htl : ts.length ≤ 30) (hft : fewR (ts.map (·.1)) = true) (n : Int) (hn : -9223372036854775808 ≤ n ∧ n ≤ 9223372036854775807) (hc : checkR ss = 0) (hd : checkR ts = 0) (w : World) (hs : Labs w.heap.size w (.slice sa sl sc) ss) (ht : Labs w.heap.size w (.slice ta tl tc) ts) :
    Calls Tryd.prog 3 #[.slice sa sl sc, .slice ta tl tc, .int .i64 n] w fun e w' => e = .returned (.bool true) ∧ Below w.heap.size w w' := by
  have K := Lib.hid (known_any w)
  obtain rfl : sl = ss.length := hs.len
  have LS := Lib.hid (fun (w1 : World) (hb : Below w.heap.size w w1) => labs_later hs hb)
  have FS := Lib.hid (fun (w1 : World) (hb : Below w.heap.size w w1) => few_of hsl hfs hs w1 hb)
  have OS := Lib.hid (fun (w1 : World) (hb : Below w.heap.size w w1) => of_any sa ss.length sc ss (by omega) w1 (LS.out w1 hb))
  obtain rfl : tl = ts.length := ht.len
  have LT := Lib.hid (fun (w1 : World) (hb : Below w.heap.size w w1) => labs_later ht hb)
  have FT := Lib.hid (fun (w1 : World) (hb : Below w.heap.size w w1) => few_of htl hft ht w1 hb)
  have OT := Lib.hid (fun (w1 : World) (hb : Below w.heap.size w w1) => of_any ta ts.length tc ts (by omega) w1 (LT.out w1 hb))
  have RS := Lib.hid (fun (w1 : World) a1 c1 (h : Labs w1.heap.size w1 (.slice a1 ss.length c1) ss) => rcheck_any a1 ss.length c1 ss (by omega) w1 h)
  have CS := Lib.hid (fun (w1 : World) (hb : Below w.heap.size w w1) => check_any sa ss.length sc ss (by omega) w1 (LS.out w1 hb))
  have RT := Lib.hid (fun (w1 : World) a1 c1 (h : Labs w1.heap.size w1 (.slice a1 ts.length c1) ts) => rcheck_any a1 ts.length c1 ts (by omega) w1 h)
  rw [hc] at RS CS
  rw [hd] at RT
  have PT := Lib.hid (fun W => parse_text ss hc W)
  have TX := Lib.hid (fun (w1 : World) (hb : Below w.heap.size w w1) => ltext_any sa ss.length sc ss (by omega) w1 (LS.out w1 hb))
  rw [show (runS ss).1 ++ [125] = textL ss from rfl] at TX
  have XT := Lib.hid (fun (w1 : World) a1 c1 (h : Labs w1.heap.size w1 (.slice a1 ss.length c1) ss) => rtext_any a1 ss.length c1 ss (by omega) w1 h)
  have SA := Lib.hid (fun (w1 : World) a1 c1 a2 c2 (h : Labs w1.heap.size w1 (.slice a1 ss.length c1) ss) (h2 : Labs w1.heap.size w1 (.slice a2 ss.length c2) ss) => rsame_any a1 a2 ss.length c1 ss.length c2 ss ss (by omega) (by omega) w1 h h2)
  rw [show (textL ss == textL ss && ((ss.length : Int) == (ss.length : Int))) = true from by simp] at SA
  have OY := Lib.hid (fun (w1 : World) a1 c1 (h : Labs w1.heap.size w1 (.slice a1 ss.length c1) ss) => of_any a1 ss.length c1 ss (by omega) w1 h)
  have HS := Lib.hid (fun (w1 : World) (hb : Below w.heap.size w w1) => hash_any sa ss.length sc ss (by omega) w1 (LS.out w1 hb))
  have HR := Lib.hid (fun (w1 : World) a1 c1 (h : Labs w1.heap.size w1 (.slice a1 ss.length c1) ss) => rhash_any a1 ss.length c1 ss (by omega) w1 h)
  have SH := Lib.hid (fun (w1 : World) (hb : Below w.heap.size w w1) => shard_any sa ss.length sc ss (by omega) n hn w1 (LS.out w1 hb))
  have SR := Lib.hid (fun (w1 : World) a1 c1 (h : Labs w1.heap.size w1 (.slice a1 ss.length c1) ss) => rshard_any a1 ss.length c1 ss (by omega) n hn w1 h)
  have CM := Lib.hid (fun (w1 : World) (hb : Below w.heap.size w w1) => compare_any sa ta ss.length sc ts.length tc ss ts (by omega) (by omega) w1 (LS.out w1 hb) (LT.out w1 hb))
  have CN := Lib.hid (fun (w1 : World) (hb : Below w.heap.size w w1) => compare_any ta sa ts.length tc ss.length sc ts ss (by omega) (by omega) w1 (LT.out w1 hb) (LS.out w1 hb))
  have CR := Lib.hid (fun (w1 : World) a1 c1 a2 c2 (h : Labs w1.heap.size w1 (.slice a1 ss.length c1) ss) (h2 : Labs w1.heap.size w1 (.slice a2 ts.length c2) ts) => rcompare_any a1 a2 ss.length c1 ts.length c2 ss ts (by omega) (by omega) w1 h h2)
  rw [cmp_swap (textL ss) (textL ts)] at CN
  have hcb := cmp_bd (textL ss) (textL ts)
  generalize cmpR (textL ss) (textL ts) = c at *
  generalize hashI (textL ss) = h at *
  generalize shardI (textL ss) n = r at *
  generalize textL ss = T at *
  have ep : ByteArray.toList ⟨T.toArray⟩ = T := by rw [ByteArray.toList_eq]
  have ew : IntKind.i64.wrap (0 - c) = 0 - c := by rw [IntKind.wrap_i64]; omega
  clear hs ht hfs hft hc hd
  go_enter Tryd.func3, Tryd.ntmps3
  go_wp2_with fail
  refine (K.out).mono ?_
  rintro e w1 ⟨rfl, B⟩
  go_wp2_with fail
  refine (FS.out _ B).mono ?_
  rintro e w2 ⟨rfl, rfl⟩
  go_wp2_with fail
  refine (FT.out _ B).mono ?_
  rintro e w3 ⟨rfl, rfl⟩
  go_wp2_with fail
  refine (OS.out _ B).mono ?_
  rintro e w4 ⟨v, rfl, hr, hb⟩
  have B := below_then B hb
  clear hb
  have P := labs_of_row9 hr
  obtain ⟨pa, pc, rfl⟩ := slice_of P
  clear hr
  go_wp2_with fail
  refine (RS.out _ _ _ P).mono ?_
  rintro e w5 ⟨rfl, hb⟩
  have P := labs_later P hb
  have B := below_then B hb
  clear hb
  clear P
  go_wp2_with fail
  refine (CS.out _ B).mono ?_
  rintro e w6 ⟨rfl, hb⟩
  have B := below_then B hb
  clear hb
  go_wp2_with fail
  refine (OT.out _ B).mono ?_
  rintro e w7 ⟨v, rfl, hr, hb⟩
  have B := below_then B hb
  clear hb
  have P := labs_of_row9 hr
  obtain ⟨qa, qc, rfl⟩ := slice_of P
  clear hr
  go_wp2_with fail
  refine (RT.out _ _ _ P).mono ?_
  rintro e w8 ⟨rfl, hb⟩
  have P := labs_later P hb
  have B := below_then B hb
  clear hb
  clear P
  go_wp2_with fail
  refine (TX.out _ B).mono ?_
  rintro e w9 ⟨rfl, hb⟩
  have B := below_then B hb
  clear hb
  go_wp2_with fail
  refine (PT.out _).mono ?_
  rintro e w10 ⟨v, rfl, Y, hb⟩
  have B := below_then B hb
  clear hb
  obtain ⟨ya, yc, rfl⟩ := slice_of Y
  go_wp2_with fail
  refine (OS.out _ B).mono ?_
  rintro e w11 ⟨v, rfl, hr, hb⟩
  have Y := labs_later Y hb
  have B := below_then B hb
  clear hb
  have P := labs_of_row9 hr
  obtain ⟨pb, pd, rfl⟩ := slice_of P
  clear hr
  go_wp2_with fail
  refine (XT.out _ _ _ P).mono ?_
  rintro e w12 ⟨rfl, hb⟩
  have Y := labs_later Y hb
  have P := labs_later P hb
  have B := below_then B hb
  clear hb
  clear P
  go_wp2_with fail
  refine (OY.out _ _ _ Y).mono ?_
  rintro e w13 ⟨v, rfl, hr, hb⟩
  have Y := labs_later Y hb
  have B := below_then B hb
  clear hb
  have Y2 := labs_of_row9 hr
  obtain ⟨yb, yd, rfl⟩ := slice_of Y2
  clear hr
  clear Y
  go_wp2_with fail
  refine (OS.out _ B).mono ?_
  rintro e w14 ⟨v, rfl, hr, hb⟩
  have Y2 := labs_later Y2 hb
  have B := below_then B hb
  clear hb
  have P := labs_of_row9 hr
  obtain ⟨pe, pf, rfl⟩ := slice_of P
  clear hr
  go_wp2_with fail
  refine (SA.out _ _ _ _ _ Y2 P).mono ?_
  rintro e w15 ⟨rfl, hb⟩
  have Y2 := labs_later Y2 hb
  have P := labs_later P hb
  have B := below_then B hb
  clear hb
  clear Y2
  clear P
  go_wp2_with fail
  refine (HS.out _ B).mono ?_
  rintro e w16 ⟨rfl, hb⟩
  have B := below_then B hb
  clear hb
  go_wp2_with fail
  refine (OS.out _ B).mono ?_
  rintro e w17 ⟨v, rfl, hr, hb⟩
  have B := below_then B hb
  clear hb
  have P := labs_of_row9 hr
  obtain ⟨pg, ph, rfl⟩ := slice_of P
  clear hr
  go_wp2_with fail
  refine (HR.out _ _ _ P).mono ?_
  rintro e w18 ⟨rfl, hb⟩
  have P := labs_later P hb
  have B := below_then B hb
  clear hb
  clear P
  go_wp2_with fail
  refine (SH.out _ B).mono ?_
  rintro e w19 ⟨rfl, hb⟩
  have B := below_then B hb
  clear hb
  go_wp2_with fail
  refine (OS.out _ B).mono ?_
  rintro e w20 ⟨v, rfl, hr, hb⟩
  have B := below_then B hb
  clear hb
  have P := labs_of_row9 hr
  obtain ⟨pi, pj, rfl⟩ := slice_of P
  clear hr
  go_wp2_with fail
  refine (SR.out _ _ _ P).mono ?_
  rintro e w21 ⟨rfl, hb⟩
  have P := labs_later P hb
  have B := below_then B hb
  clear hb
  clear P
  go_wp2_with fail
  refine (CM.out _ B).mono ?_
  rintro e w22 ⟨rfl, hb⟩
  have B := below_then B hb
  clear hb
  go_wp2_with fail
  refine (OS.out _ B).mono ?_
  rintro e w23 ⟨v, rfl, hr, hb⟩
  have B := below_then B hb
  clear hb
  have P := labs_of_row9 hr
  obtain ⟨pk, pl, rfl⟩ := slice_of P
  clear hr
  go_wp2_with fail
  refine (OT.out _ B).mono ?_
  rintro e w24 ⟨v, rfl, hr, hb⟩
  have P := labs_later P hb
  have B := below_then B hb
  clear hb
  have P2 := labs_of_row9 hr
  obtain ⟨pm, pn, rfl⟩ := slice_of P2
  clear hr
  go_wp2_with fail
  refine (CR.out _ _ _ _ _ P P2).mono ?_
  rintro e w25 ⟨rfl, hb⟩
  have P := labs_later P hb
  have P2 := labs_later P2 hb
  have B := below_then B hb
  clear hb
  clear P
  clear P2
  go_wp2_with fail
  refine (CN.out _ B).mono ?_
  rintro e w26 ⟨rfl, hb⟩
  have B := below_then B hb
  clear hb
  go_wp2_with fail
  refine (OS.out _ B).mono ?_
  rintro e w27 ⟨v, rfl, hr, hb⟩
  have B := below_then B hb
  clear hb
  have P := labs_of_row9 hr
  obtain ⟨po, pp, rfl⟩ := slice_of P
  clear hr
  go_wp2_with fail
  refine (OT.out _ B).mono ?_
  rintro e w28 ⟨v, rfl, hr, hb⟩
  have P := labs_later P hb
  have B := below_then B hb
  clear hb
  have P2 := labs_of_row9 hr
  obtain ⟨pq, pr, rfl⟩ := slice_of P2
  clear hr
  go_wp2_with fail
  refine (CR.out _ _ _ _ _ P P2).mono ?_
  rintro e w29 ⟨rfl, hb⟩
  have P := labs_later P hb
  have P2 := labs_later P2 hb
  have B := below_then B hb
  clear hb
  clear P
  clear P2
  go_wp2_with fail
  go_ret
  exact ⟨by first | rfl | (simp), B⟩
theorem any_law (sa ta : Option Addr) (sl sc tl tc : Nat) (ss ts : List Lab) (hsl : ss.length ≤ 9223372036854775807) (hsb : ∀ x ∈ ss, x.1.length ≤ 9223372036854775807 ∧ x.2.length ≤ 9223372036854775807) (htl : ts.length ≤ 9223372036854775807) (htb : ∀ x ∈ ts, x.1.length ≤ 9223372036854775807 ∧ x.2.length ≤ 9223372036854775807) (n : Int) (hn : -9223372036854775808 ≤ n ∧ n ≤ 9223372036854775807) (w : World) (hs : LabsG w.heap.size w (.slice sa sl sc) ss) (ht : LabsG w.heap.size w (.slice ta tl tc) ts) :
    Calls Tryd.prog 3 #[.slice sa sl sc, .slice ta tl tc, .int .i64 n] w fun e w' => e = .returned (.bool true) ∧ Below w.heap.size w w' := by
  cases hf : fewR ss
  · exact any_few1 sa ta sl sc tl tc ss hsl hsb n hf w hs
  cases hg : fewR ts
  · exact any_few2 sa ta sl sc tl tc ss ts hsl hsb htl htb n hf hg w hs ht
  obtain ⟨s', rfl, hs'⟩ := few_short hf
  obtain ⟨t', rfl, ht'⟩ := few_short hg
  by_cases hc : checkR s' = 0
  · by_cases hd : checkR t' = 0
    · exact any_good sa ta sl sc tl tc s' t' hs' hf ht' hg n hn hc hd w hs.toS ht.toS
    · exact any_bad2 sa ta sl sc tl tc s' t' hs' hf ht' hg n hc hd w hs.toS ht.toS
  · exact any_bad1 sa ta sl sc tl tc s' t' hs' hf ht' hg n hc w hs.toS ht.toS
end Go.Proofs.YtmcmgmpgmbljiaaDoor
