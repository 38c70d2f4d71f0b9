/- fold over the bytes of a number; fold over numbers of 64 bits; Sum. -/
import Derived.Test.YtmggiclikbacjaaDoorWalkP
import Derived.LoopTactic
namespace Go.Proofs.YtmggiclikbacjaaDoor
open Go Go.Proofs Go.RowKit
set_option maxRecDepth 100000

/-- a decimal's value -/
def valD (l : List UInt8) : Nat := l.foldl (fun a c => a * 10 + (c.toNat - 48)) 0
theorem valD_snoc (l : List UInt8) (c : UInt8) : valD (l ++ [c]) = valD l * 10 + (c.toNat - 48) := by simp [valD]
theorem take_snoc_d (l : List UInt8) (k : Nat) (h : k < l.length) : l.take (k + 1) = l.take k ++ [l[k]] := by
  rw [List.take_succ_eq_append_getElem h]

structure FoldP (B sb s : Nat) (sg : Int) (l : List UInt8) (w : World) (k : Nat) (wr : World) (x0 x1 x2 : Int) : Prop where
  isl : IsL (sg * (valD (l.take k) : Int)) x0 x1 x2
  acc : At wr s [.int .u64 x0, .int .u64 x1, .int .u64 x2]
  res : At wr (s + 1) [.int .u64 0, .int .u64 0, .int .u64 0]
  bel : Below w.heap.size w wr

set_option maxHeartbeats 2000000 in
theorem foldParse_any (B n cap sb : Nat) (sg : Int) (l : List UInt8) (hsg : sg = 1 ∨ sg = -1) (hn : l.length = n) (hl : n ≤ 1000) (hd : ∀ c ∈ l, 48 ≤ c.toNat ∧ c.toNat ≤ 57) (w : World)
    (hB : B < w.heap.size) (hX : ∀ (k : Nat) (c : UInt8), l[k]? = some c → w.cell? ⟨B, k, none⟩ = some (.int .u8 (c.toNat : Int))) (hS : At w sb [.int .i64 sg]) (z0 z1 z2 : Int) (hz : IsL (sg * (valD l : Int)) z0 z1 z2) :
    Calls Tryd.prog 37 #[.slice (some ⟨B, 0, none⟩) n cap, .agg #[.int .u64 0, .int .u64 0, .int .u64 0], .func (.func 38) #[] #[.pointer (some ⟨sb, 0, none⟩)]] w fun e w' =>
      e = .returned (.agg #[.int .u64 z0, .int .u64 z1, .int .u64 z2]) ∧ Below w.heap.size w w' := by
  have X := Lib.hid hX
  have D := Lib.hid hd
  have G := Lib.hid hsg
  have Z := Lib.hid hz
  clear hX hd hsg hz
  have N := Lib.hid hn
  clear hn
  go_enter Tryd.func37, Tryd.ntmps37
  go_wp2_with fail
  go_loopw [11] (fun i wr => ∃ (k : Nat) (x0 x1 x2 : Int), k ≤ n ∧ i = .int .i64 k ∧ FoldP B sb w.heap.size sg l w k wr x0 x1 x2) (fun i _ => n - (intOf i).toNat)
  case atStart =>
    refine ⟨0, 0, 0, 0, Nat.zero_le _, rfl, ⟨⟨by simp [valD], by simp [valD], by simp [valD]⟩, ?_, ?_, by go_grown⟩⟩
    · exact (At.new w #[.int .u64 0, .int .u64 0, .int .u64 0] 59).alloc _
    · have h := At.new (w.alloc (.cells #[.int .u64 0, .int .u64 0, .int .u64 0] 59)) #[.int .u64 0, .int .u64 0, .int .u64 0] 59
      simpa using h
  case round =>
    obtain ⟨k, x0, x1, x2, hk, rfl, F⟩ := hrel
    have HF := Lib.hid F
    clear F
    by_cases hlt : k < n
    · have hkl : k < l.length := by rw [N.out]; exact hlt
      have hc := X.out k l[k] (by simp [hkl])
      have hcr : wr.cell? ⟨B, k, none⟩ = some (.int .u8 (l[k].toNat : Int)) := (HF.out.bel.cell (p := ⟨B, k, none⟩) hB).trans hc
      have dk := D.out l[k] (List.getElem_mem hkl)
      have hT := take_snoc_d l k hkl
      have hV : Hid (sg * (valD (l.take k) : Int) * 10 + sg * ((l[k].toNat : Int) - 48) = sg * (valD (l.take (k + 1)) : Int)) := by
        unfold Hid; rw [hT, valD_snoc]; rcases G.out with rfl | rfl <;> omega
      clear hT hc
      generalize hcv : (l[k].toNat : Int) = c at *
      have d1 : 48 ≤ c := by omega
      have d2 : c ≤ 57 := by omega
      clear hcv dk
      obtain ⟨y0, y1, y2, hy⟩ := isL_ex (sg * (valD (l.take (k + 1)) : Int))
      have P := Lib.hid (fun (W : World) (hS : At W sb [.int .i64 sg]) => parseStep_raw sb sg (sg * (valD (l.take k) : Int)) c (sg * (c - 48)) x0 x1 x2 y0 y1 y2 HF.out.isl (by rw [hV.out]; exact hy) d1 d2 (by rcases G.out with h | h; (exact .inl ⟨h, by rw [h]; omega⟩); (exact .inr ⟨h, by rw [h]; omega⟩)) W hS)
      have HY := Lib.hid hy
      clear hy d1 d2 hV
      have c0 := HF.out.acc.cell 0 _ rfl
      have c1 := HF.out.acc.cell 1 _ rfl
      have c2 := HF.out.acc.cell 2 _ rfl
      go_wp2_with fail
      refine (P.out _ ((hS.below HF.out.bel))).mono ?_
      rintro e w1 ⟨rfl, hb⟩
      have hA := HF.out.acc.below hb
      have hR := HF.out.res.below hb
      have hBel : Below w.heap.size w w1 := HF.out.bel.trans (hb.mono HF.out.bel.size)
      clear hb c0 c1 c2 hcr
      have c0 := hA.cell 0 _ rfl
      have c1 := hA.cell 1 _ rfl
      have c2 := hA.cell 2 _ rfl
      have f0 := hA.free 0 _ rfl
      have f1 := hA.free 1 _ rfl
      have f2 := hA.free 2 _ rfl
      go_wp2_with fail
      go_roundw
      case rel =>
        refine ⟨k + 1, y0, y1, y2, by omega, by go_num, ⟨HY.out, ((hA.set 0 _).set 1 _).set 2 _, ((hR.far (by omega) _).far (by omega) _).far (by omega) _, ?_⟩⟩
        exact ((hBel.setCell (by simp) _).setCell (by simp) _).setCell (by simp) _
      case measure => simp [intOf]; omega
    · have hkn : k = n := by omega
      have HE : Hid (x0 = z0 ∧ x1 = z1 ∧ x2 = z2) := by
        have h := HF.out.isl
        rw [List.take_of_length_le (by rw [N.out]; omega)] at h
        exact isL_inj h Z.out
      clear hkn
      have c0 := HF.out.acc.cell 0 _ rfl
      have c1 := HF.out.acc.cell 1 _ rfl
      have c2 := HF.out.acc.cell 2 _ rfl
      have r0 := HF.out.res.cell 0 _ rfl
      have r1 := HF.out.res.cell 1 _ rfl
      have r2 := HF.out.res.cell 2 _ rfl
      have f0 := HF.out.res.free 0 _ rfl
      have f1 := HF.out.res.free 1 _ rfl
      have f2 := HF.out.res.free 2 _ rfl
      go_wp2
      have s0 := same0 r0
      have s1 := same1 r1
      have s2 := same2 r2
      refine bodyPost_ret (v := .agg #[.int .u64 x0, .int .u64 x1, .int .u64 x2]) (by simp [results, Tryd.results37, go_sem, s0, s1, s2]) rfl ⟨?_, ?_⟩
      · rw [HE.out.1, HE.out.2.1, HE.out.2.2]
      · exact ((HF.out.bel.setCell (by simp) _).setCell (by simp) _).setCell (by simp) _
end Go.Proofs.YtmggiclikbacjaaDoor
