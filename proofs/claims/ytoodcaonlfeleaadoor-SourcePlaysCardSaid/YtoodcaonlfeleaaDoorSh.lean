/- The document's Sources: Put. -/
import Derived.Test.YtoodcaonlfeleaaDoorSg
namespace Go.Proofs.YtoodcaonlfeleaaDoor
open Go Go.Proofs Go.RowKit Go.Shelf
set_option maxRecDepth 100000
attribute [local go_sem] cell_set Oper.semAt_some
/-- what Put says -/
def putN (S : Sr) (zs : List SLab) (t s q : Int) : Int := if sampR zs t s q ≠ 0 then sampR zs t s q else if q ≤ seqS S s then 6 else if t < S.f then 9 else 0
def nthS (S : Sr) (i : Nat) : R4 := S.rest.getD i ⟨0, 0, false, 0⟩
def newR (r : R4) (q t : Int) : R4 := ⟨q, if r.p = true ∧ ¬ r.t < t then r.t else t, true, 0⟩
def putS (S : Sr) (i : Nat) (q t : Int) : Sr := frontS { S with rest := S.rest.set i (newR (nthS S i) q t) }
def putB (S : Sr) (zs : List SLab) (t s q : Int) : Sr := if putN S zs t s q = 0 then putS S (s - 1).toNat q t else S
/-- what lies while Put goes -/
structure PvS (S Z : Sr) (n : Nat) (x : List Value) (w u : World) : Prop where
  T : SAt u n S
  X : At u (n + 1) x
  Z : SAt u (n + 1 + 1) Z
  W : Below n w u
section
variable {S Z : Sr} {n : Nat} {x : List Value} {w u u' : World}
theorem PvS.below (h : PvS S Z n x w u) (hb : Below u.heap.size u u') : PvS S Z n x w u' := ⟨VAt.below h.T hb, h.X.below hb, VAt.below h.Z hb, h.W.trans (hb.mono (Nat.le_of_lt (VAt.lt h.T)))⟩
theorem PvS.start (w : World) (S Z : Sr) (x : List Value) : PvS S Z w.heap.size x w (((w.alloc (.cells (srC S).toArray 32)).alloc (.cells x.toArray 44)).alloc (.cells (srC Z).toArray 32)) := by
  refine ⟨((vat_new w _ _).alloc _).alloc _, ?_, ?_, below_new (below_new (below_cells _) _) _⟩
  · exact (At.nwb _ _ x _ (by simp)).alloc _
  · have := vat_new ((w.alloc (.cells (srC S).toArray 32)).alloc (.cells x.toArray 44)) 32 (srC Z)
    rwa [World.size_alloc, World.size_alloc] at this
end
def PutPostS (S : Sr) (zs : List SLab) (t s q : Int) (w : World) (e : Ending) (w' : World) : Prop :=
  e = .returned (.tuple #[.agg (srC (putB S zs t s q)).toArray, .int .i64 (putN S zs t s q)]) ∧ Below w.heap.size w w'
set_option maxHeartbeats 8000000 in
theorem rput_bad (S : Sr) (hS : SrOk S) (a : Option Addr) (n cap : Nat) (zs : List SLab) (hz0 : zs.length ≤ 100) (v t s q : Int) (w : World) (hI : Labs w.heap.size w (.slice a n cap) zs) (hc : sampR zs t s q ≠ 0) :
    Calls Tryd.prog 9 #[.agg (srC S).toArray, sampV (.slice a n cap) v t s q] w (PutPostS S zs t s q w) := by
  have e1 : Hid (putN S zs t s q = sampR zs t s q) := by unfold Hid putN; rw [if_pos hc]
  have e2 : Hid (putB S zs t s q = S) := by unfold Hid putB; rw [e1.out, if_neg hc]
  have rc := sr_rc hS.len
  have hz := zeroSrc
  have rz := zero_rc
  have hzs : (srC zeroS).toArray.size = 71 := by rw [List.size_toArray, rz.len]
  have hzn : (srC zeroS).toArray ≠ #[] := fun e => by rw [e] at hzs; cases hzs
  obtain ⟨W1, hW1⟩ : ∃ W1, W1 = ((w.alloc (.cells (srC S).toArray 32)).alloc (.cells #[.slice a n cap, .int .i64 v, .int .i64 t, .int .i64 s, .int .i64 q] 44)).alloc (.cells (srC zeroS).toArray 32) := ⟨_, rfl⟩
  have S1 : PvS S zeroS w.heap.size [.slice a n cap, .int .i64 v, .int .i64 t, .int .i64 s, .int .i64 q] w W1 := by
    rw [hW1]
    exact PvS.start w S zeroS [.slice a n cap, .int .i64 v, .int .i64 t, .int .i64 s, .int .i64 q]
  have C := Lib.hid (rsamp_any a n cap zs hz0 v t s q W1 (labs_on hI S1.W))
  unfold sampV at *
  have HS := Lib.hid S1
  have q1 : (sampR zs t s q != 0) = true := by simpa using hc
  clear S1 hI hc
  generalize sampR zs t s q = c at *
  go_enter Tryd.func9, Tryd.ntmps9
  go_wp2_with fail
  rw [← hW1]
  refine C.out.mono ?_
  rintro e w2 ⟨rfl, hb2⟩
  have S2 := HS.out.below hb2
  have a5 := S2.X.f5
  have hT2 := S2.T
  have hZ2 := S2.Z
  have HS2 := Lib.hid S2
  clear hb2 C hW1 S2 HS hz hzs hzn
  go_wp2_with (first | (refine ld_v rowSrc rc hT2 rfl rfl rfl ?_) | (refine st_v rowSrc rz rc hZ2 rfl rfl rfl rfl ?_) | fail)
  refine bodyPost_ret (res_vt (p := 4) (q := 5) rfl rfl rfl rowSrc rc (hZ2.row _)) rfl ?_
  exact ⟨by rw [e1.out, e2.out]; rfl, below_row HS2.out.W (by omega) _⟩
set_option maxHeartbeats 8000000 in
theorem rput_seen (S : Sr) (hS : SrOk S) (a : Option Addr) (n cap : Nat) (zs : List SLab) (hz0 : zs.length ≤ 100) (v t s q : Int) (w : World) (hI : Labs w.heap.size w (.slice a n cap) zs) (hc : sampR zs t s q = 0) (hq : q ≤ seqS S s) :
    Calls Tryd.prog 9 #[.agg (srC S).toArray, sampV (.slice a n cap) v t s q] w (PutPostS S zs t s q w) := by
  have e1 : Hid (putN S zs t s q = 6) := by unfold Hid putN; rw [if_neg (by omega), if_pos hq]
  have e2 : Hid (putB S zs t s q = S) := by unfold Hid putB; rw [e1.out, if_neg (by omega)]
  have rc := sr_rc hS.len
  have hz := zeroSrc
  have rz := zero_rc
  have hzs : (srC zeroS).toArray.size = 71 := by rw [List.size_toArray, rz.len]
  have hzn : (srC zeroS).toArray ≠ #[] := fun e => by rw [e] at hzs; cases hzs
  obtain ⟨W1, hW1⟩ : ∃ W1, W1 = ((w.alloc (.cells (srC S).toArray 32)).alloc (.cells #[.slice a n cap, .int .i64 v, .int .i64 t, .int .i64 s, .int .i64 q] 44)).alloc (.cells (srC zeroS).toArray 32) := ⟨_, rfl⟩
  have S1 : PvS S zeroS w.heap.size [.slice a n cap, .int .i64 v, .int .i64 t, .int .i64 s, .int .i64 q] w W1 := by
    rw [hW1]
    exact PvS.start w S zeroS [.slice a n cap, .int .i64 v, .int .i64 t, .int .i64 s, .int .i64 q]
  have C := Lib.hid (rsamp_any a n cap zs hz0 v t s q W1 (labs_on hI S1.W))
  unfold sampV at *
  have HS := Lib.hid S1
  rw [hc] at C
  have SN := Lib.hid (fun u => rseen_any S hS s q u)
  have dq : decide (q ≤ seqS S s) = true := by simpa using hq
  rw [dq] at SN
  clear S1 hI hc hq dq
  go_enter Tryd.func9, Tryd.ntmps9
  go_wp2_with fail
  rw [← hW1]
  refine C.out.mono ?_
  rintro e w2 ⟨rfl, hb2⟩
  have S2 := HS.out.below hb2
  have a5 := S2.X.f5
  have hT2 := S2.T
  have hZ2 := S2.Z
  have HS2 := Lib.hid S2
  clear hb2 C hW1 S2 HS hz hzs hzn
  go_wp2_with (first | (refine ld_v rowSrc rc hT2 rfl rfl rfl ?_) | fail)
  refine (SN.out _).mono ?_
  rintro e w3 ⟨rfl, hb3⟩
  have S3 := HS2.out.below hb3
  have hT3 := S3.T
  have hZ3 := S3.Z
  have HS3 := Lib.hid S3
  clear hb3 a5 hT2 hZ2 S3
  go_wp2_with (first | (refine ld_v rowSrc rc hT3 rfl rfl rfl ?_) | (refine st_v rowSrc rz rc hZ3 rfl rfl rfl rfl ?_) | fail)
  refine bodyPost_ret (res_vt (p := 4) (q := 5) rfl rfl rfl rowSrc rc (hZ3.row _)) rfl ?_
  exact ⟨by rw [e1.out, e2.out]; rfl, below_row HS3.out.W (by omega) _⟩
set_option maxHeartbeats 8000000 in
theorem rput_late (S : Sr) (hS : SrOk S) (a : Option Addr) (n cap : Nat) (zs : List SLab) (hz0 : zs.length ≤ 100) (v t s q : Int) (w : World) (hI : Labs w.heap.size w (.slice a n cap) zs) (hc : sampR zs t s q = 0) (hq : ¬ q ≤ seqS S s) (ht : t < S.f) :
    Calls Tryd.prog 9 #[.agg (srC S).toArray, sampV (.slice a n cap) v t s q] w (PutPostS S zs t s q w) := by
  have e1 : Hid (putN S zs t s q = 9) := by unfold Hid putN; rw [if_neg (by omega), if_neg hq, if_pos ht]
  have e2 : Hid (putB S zs t s q = S) := by unfold Hid putB; rw [e1.out, if_neg (by omega)]
  have h70 := sr_f hS.len
  have rc := sr_rc hS.len
  have hz := zeroSrc
  have rz := zero_rc
  have hzs : (srC zeroS).toArray.size = 71 := by rw [List.size_toArray, rz.len]
  have hzn : (srC zeroS).toArray ≠ #[] := fun e => by rw [e] at hzs; cases hzs
  obtain ⟨W1, hW1⟩ : ∃ W1, W1 = ((w.alloc (.cells (srC S).toArray 32)).alloc (.cells #[.slice a n cap, .int .i64 v, .int .i64 t, .int .i64 s, .int .i64 q] 44)).alloc (.cells (srC zeroS).toArray 32) := ⟨_, rfl⟩
  have S1 : PvS S zeroS w.heap.size [.slice a n cap, .int .i64 v, .int .i64 t, .int .i64 s, .int .i64 q] w W1 := by
    rw [hW1]
    exact PvS.start w S zeroS [.slice a n cap, .int .i64 v, .int .i64 t, .int .i64 s, .int .i64 q]
  have C := Lib.hid (rsamp_any a n cap zs hz0 v t s q W1 (labs_on hI S1.W))
  unfold sampV at *
  have HS := Lib.hid S1
  rw [hc] at C
  have SN := Lib.hid (fun u => rseen_any S hS s q u)
  have dq : decide (q ≤ seqS S s) = false := by simpa using hq
  rw [dq] at SN
  clear S1 hI hc hq dq
  go_enter Tryd.func9, Tryd.ntmps9
  go_wp2_with fail
  rw [← hW1]
  refine C.out.mono ?_
  rintro e w2 ⟨rfl, hb2⟩
  have S2 := HS.out.below hb2
  have a5 := S2.X.f5
  have hT2 := S2.T
  have hZ2 := S2.Z
  have HS2 := Lib.hid S2
  clear hb2 C hW1 S2 HS hz hzs hzn
  go_wp2_with (first | (refine ld_v rowSrc rc hT2 rfl rfl rfl ?_) | fail)
  refine (SN.out _).mono ?_
  rintro e w3 ⟨rfl, hb3⟩
  have S3 := HS2.out.below hb3
  have hT3 := S3.T
  have hZ3 := S3.Z
  have b5 := S3.X.f5
  have cf := VAt.cell hT3 h70
  have HS3 := Lib.hid S3
  clear hb3 a5 hT2 hZ2 S3 h70
  go_wp2_with (first | (refine ld_v rowSrc rc hT3 rfl rfl rfl ?_) | (refine st_v rowSrc rz rc hZ3 rfl rfl rfl rfl ?_) | fail)
  refine bodyPost_ret (res_vt (p := 4) (q := 5) rfl rfl rfl rowSrc rc (hZ3.row _)) rfl ?_
  exact ⟨by rw [e1.out, e2.out]; rfl, below_row HS3.out.W (by omega) _⟩
end Go.Proofs.YtoodcaonlfeleaaDoor
