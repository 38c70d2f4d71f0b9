/- belfrylaw5.same of two slices that hold the same matchers. -/
import Derived.Test.YthdoniefjmphaaaGreatDoorRfB
namespace Go.Proofs.YthdoniefjmphaaaGreatDoor
open Go Go.Proofs Go.RowKit Go.Shelf
set_option maxRecDepth 100000
set_option maxHeartbeats 4000000 in
theorem same5_any (sv tv : Value) (zs : List SItm) (hreach : zs.length ≤ 1000) (w : World) (hI : MtL w.heap.size w sv zs) (hJ : MtL w.heap.size w tv zs) :
  Calls Tryz.prog 18 #[sv, tv] w fun e w' => e = .returned (.bool true) ∧ Below w.heap.size w w' := by
 obtain ⟨a, cap, rfl⟩ := hI.slice;obtain ⟨a2, cap2, rfl⟩ := hJ.slice;have HI := Lib.hid hI;have HJ := Lib.hid hJ;have z0 : ((zs.length : Int) != (zs.length : Int)) = false := by simp
 clear hI hJ;go_enter Tryz.func18, Tryz.ntmps18
 go_wp2
 go_loopw [5] (fun i wr => ∃ k : Nat, k ≤ zs.length ∧ i = .int .i64 (k : Int) ∧ Below w.heap.size w wr) (fun i _ => zs.length - (intOf i).toNat)
 case atStart => exact ⟨0, Nat.zero_le _, rfl, Below.refl _ _⟩
 case round =>
  obtain ⟨k, hk, rfl, hBw⟩ := hrel;by_cases hlt : k < zs.length
  ·
   obtain ⟨x, hx⟩ : ∃ x, zs[k]? = some x := ⟨_, List.getElem?_eq_getElem hlt⟩;rcases HI.out.below hBw with ⟨_, rfl⟩ | ⟨b, off, c, e, hb, hc⟩
   ·
    simp at hlt
   obtain ⟨rfl, rfl⟩ : a = some ⟨b, off, none⟩ ∧ cap = c := by simpa using e
   rcases HJ.out.below hBw with ⟨_, rfl⟩ | ⟨b2, off2, c2, e2, hb2, hc2⟩
   ·
    simp at hlt
   obtain ⟨rfl, rfl⟩ : a2 = some ⟨b2, off2, none⟩ ∧ cap2 = c2 := by simpa using e2
   obtain ⟨c0, c1, c2'⟩ := hc k x hx;obtain ⟨d0, d1, d2'⟩ := hc2 k x hx;obtain ⟨⟨n, o, u⟩, hx0⟩ := x;dsimp only at c0 c1 c2' d0 d1 d2';have h0 : (0 : Int) ≤ (k : Int) := by omega
   have h1 : (k : Int) < (zs.length : Int) := by omega
   have en : (⟨n.toArray⟩ : ByteArray).toList = n := by rw [ByteArray.toList_eq]
   have eo : (⟨o.toArray⟩ : ByteArray).toList = o := by rw [ByteArray.toList_eq]
   have eu : (⟨u.toArray⟩ : ByteArray).toList = u := by rw [ByteArray.toList_eq]
   have q1 : (n == n) = true := by simp
   have q2 : (o == o) = true := by simp
   have q3 : (u == u) = true := by simp
   have HB := Lib.hid hBw;clear e e2 hx hc hc2 hBw;go_wp2
   go_quiet (fail)
   have hB2 : Below w.heap.size w (wr.drewN nq) := below_dN' HB.out nq;go_wp2
   go_roundw
   case rel => exact ⟨k + 1, by omega, by go_num, hB2⟩
   case measure => simp [intOf]; omega
  ·
   obtain rfl : k = zs.length := by omega
   go_wp2
   go_ret
   exact ⟨rfl, hBw⟩
theorem good_vals {zs : List SLab} (h : checkR zs = 0) : ∀ y ∈ zs, y.1.2.length ≤ 66 := by
 have hz : chk [] zs = 0 := by
  unfold checkR at h;by_cases h1 : 16 < zs.length
  ·
   rw [if_pos h1] at h; cases h
  ·
   rw [if_neg h1] at h; exact h
 have key : ∀ (zs : List SLab) (l : List UInt8), chk l zs = 0 → ∀ x ∈ zs, valueR x.1.2 = true := by
  intro zs;induction zs with
  | nil => intro l _ x hx; cases hx
  | cons y t ih =>
   intro l h x hx;rw [chk_cons] at h;by_cases h1 : nameR y.1.1 = false
   ·
    rw [if_pos h1] at h; cases h
   ·
    rw [if_neg h1] at h;by_cases h2 : (Op.bytesLess y.1.1 l || y.1.1 == l) = true
    ·
     rw [if_pos h2] at h; cases h
    ·
     rw [if_neg h2] at h;by_cases h3 : valueR y.1.2 = false
     ·
      rw [if_pos h3] at h; cases h
     ·
      rw [if_neg h3] at h;rcases List.mem_cons.1 hx with rfl | hx
      ·
       simpa using h3
      ·
       exact ih _ h x hx
 intro y hy;have := key zs [] hz y hy;unfold valueR at this;simp only [Bool.and_eq_true, decide_eq_true_eq] at this;omega
end Go.Proofs.YthdoniefjmphaaaGreatDoor
