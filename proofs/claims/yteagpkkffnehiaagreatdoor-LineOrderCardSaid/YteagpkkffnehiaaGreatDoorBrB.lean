/- braces.cutName walked. -/
import Derived.Test.YteagpkkffnehiaaGreatDoorBrA
namespace Go.Proofs.YteagpkkffnehiaaGreatDoor
open Go Go.Proofs Go.RowKit Go.Shelf
set_option maxRecDepth 100000
theorem below_dN' {B : Nat} {w v : World} (h : Below B w v) (q : Nat) : Below B w (v.drewN q) := ⟨h.os, h.tape, h.output, h.size, h.block⟩
theorem ext_front (l : List UInt8) (k : Nat) : (⟨l.toArray⟩ : ByteArray).extract 0 k = ⟨(l.take k).toArray⟩ := by
  apply bytes_mk; rw [Lib.extract_data]; simp
theorem ext_back (l : List UInt8) (k : Nat) : (⟨l.toArray⟩ : ByteArray).extract k l.length = ⟨(l.drop k).toArray⟩ := by
  apply bytes_mk; rw [Lib.extract_data]; simp; rw [List.take_of_length_le (by simp)]
set_option maxHeartbeats 4000000 in
theorem cutName_any (ops : List (List UInt8)) (a : Option Addr) (len cap : Nat) (l : List UInt8) (hl : l.length ≤ 100000) (w : World) (hops : TxAt w.heap.size w (.slice a len cap) ops) :
    Calls Tryz.prog 103 #[.string ⟨l.toArray⟩, .slice a len cap] w fun e w' => e = .returned (.tuple #[.string ⟨(cutN ops l).1.toArray⟩, .string ⟨(cutN ops l).2.toArray⟩]) ∧ Below w.heap.size w w' := by
  have HO := Lib.hid hops
  have D0 := At.new w #[.string ⟨l.toArray⟩] 9
  have hb0 := below_cells (w := w) (.cells #[.string ⟨l.toArray⟩] 9)
  clear hops
  go_enter Tryz.func103, Tryz.ntmps103
  go_wp2
  go_loopw [9] (fun i wr => ∃ k : Nat, k ≤ l.length ∧ i = .int .i64 (k : Int) ∧ Below w.heap.size w wr ∧ At wr w.heap.size [.string ⟨l.toArray⟩] ∧ ∀ j, j < k → ∀ c, l[j]? = some c → headB ops c = false) (fun i _ => l.length - (intOf i).toNat)
  case atStart => exact ⟨0, Nat.zero_le _, rfl, hb0, D0, fun j h => (by omega)⟩
  case round =>
    clear D0 hb0
    obtain ⟨k, hk, rfl, hb, D, hH⟩ := hrel
    by_cases hlt : k < l.length
    · have h1 : (0 : Int) ≤ (k : Int) := by omega
      have h2 : (k : Int) < (l.length : Int) := by omega
      have hE := At.new wr #[.int .i64 (k : Int)] 3
      have hbE := below_cells (w := wr) (.cells #[.int .i64 (k : Int)] 3)
      have D2 := D.below hbE
      have hb2 := below_then hb hbE
      have HC := Lib.hid (bcontains_any ops a len cap l k hlt hl w.heap.size wr.heap.size w.heap.size (wr.alloc (.cells #[.int .i64 (k : Int)] 3)) (HO.out.below hb2) (D2.cell 0 _ rfl) (hE.cell 0 _ rfl))
      have HH := Lib.hid hH
      have HB := Lib.hid hb2
      have HD := Lib.hid D2
      have HE := Lib.hid hE
      have c0 := D.cell 0 _ rfl
      clear hH hb hb2 D2 hE hbE D
      cases hq : headB ops l[k] with
      | true =>
        rw [hq] at HC
        have CN := Lib.hid (cutN_at ops l hlt HH.out hq)
        clear hq
        go_wp2_with fail
        refine HC.out.mono ?_
        rintro e w1 ⟨rfl, rfl⟩
        clear HC c0
        generalize wr.alloc (.cells #[.int .i64 (k : Int)] 3) = v at *
        have d0 := HD.out.cell 0 _ rfl
        have e0 := HE.out.cell 0 _ rfl
        have h3 : (k : Int) ≤ (l.length : Int) := by omega
        go_wp2_with fail
        go_quiet (fail)
        go_wp2
        go_ret2
        refine ⟨?_, below_dN' HB.out _⟩
        rw [CN.out]
        (try rw [ext_front, ext_back])
        rfl
      | false =>
        rw [hq] at HC
        have NX : Hid (∀ j, j < k + 1 → ∀ c, l[j]? = some c → headB ops c = false) := by
          intro j hj c hc
          rcases Nat.lt_or_ge j k with g | g
          · exact HH.out j g c hc
          · have : j = k := by omega
            subst this
            rw [List.getElem?_eq_getElem hlt] at hc
            cases hc; exact hq
        clear hq
        go_wp2_with fail
        refine HC.out.mono ?_
        rintro e w1 ⟨rfl, rfl⟩
        go_wp2
        go_roundw
        case rel => exact ⟨k + 1, by omega, by go_num, HB.out, HD.out, NX.out⟩
        case measure => simp [intOf]; omega
    · have h2 : ¬ (k : Int) < (l.length : Int) := by omega
      obtain rfl : k = l.length := by omega
      have CN := Lib.hid (cutN_none ops l hH)
      have c0 := D.cell 0 _ rfl
      clear hH
      go_wp2
      go_ret2
      exact ⟨by rw [CN.out]; rfl, hb⟩
end Go.Proofs.YteagpkkffnehiaaGreatDoor
