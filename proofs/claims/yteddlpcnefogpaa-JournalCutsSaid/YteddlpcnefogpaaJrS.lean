/- The reference's Scan. -/
import Derived.Test.YteddlpcnefogpaaJrE
namespace Go.Proofs.Yteddlpcnefogpaa
open Go Go.Proofs Go.RowKit Go.Shelf
set_option maxRecDepth 100000
theorem info_rrec : (Try.prog.info? 48).map (fun i => (i.zero, i.size, i.bytes)) = some (some (.agg #[.int .u8 0, .string ⟨#[]⟩]), 2, 24) := by kernel_rfl
/-- the cells of the reference's records -/
def rrC (rs : List Rec) : List Value := rs.flatMap fun r => [byV r.1, .string ⟨r.2.toArray⟩]
theorem rrC_snoc (rs : List Rec) (r : Rec) : rrC (rs ++ [r]) = rrC rs ++ [byV r.1, .string ⟨r.2.toArray⟩] := by unfold rrC; simp
/-- records of the reference's in memory of the call's own -/
def RRs (B : Nat) (W : World) (v : Value) (rs : List Rec) : Prop := W.ownsRow B 48 2 v rs.length (rrC rs)
theorem strIx (l : List UInt8) (k : Nat) (x : UInt8) (h : l[k]? = some x) : ∀ q, (⟨l.toArray⟩ : ByteArray)[k]'q = x := fun q => by
  have := (List.getElem?_eq_some_iff.1 h).2
  exact this
theorem wrI {n : Int} (h : -9223372036854775808 ≤ n) (k : n ≤ 9223372036854775807) : IntKind.i64.wrap n = n := by rw [IntKind.wrap_i64]; omega
theorem row_drewN {w : World} {base e s n : Nat} {v : Value} {X : List Value} (h : w.ownsRow base e s v n X) (q : Nat) : (w.drewN q).ownsRow base e s v n X := ⟨h.1, h.2⟩
def RScan (l : List UInt8) (w : World) (e : Ending) (w' : World) : Prop :=
  ∃ v, e = .returned (.tuple #[v, .int .i64 (endR (scanR l) : Int)]) ∧ RRs w.heap.size w' v (scanR l) ∧ Below w.heap.size w w'
set_option maxHeartbeats 8000000 in
theorem rscan_any (l : List UInt8) (w : World) (hbig : l.length ≤ 1099511627776) :
    Calls Try.prog 10 #[.string ⟨l.toArray⟩] w (RScan l w) := by
  obtain ⟨i0, hi, hz0, hz1, hz2⟩ := info_parts info_rrec
  have HI := Lib.hid hi
  have HZ := Lib.hid hz0
  have HZ1 := Lib.hid hz1
  have HZ2 := Lib.hid hz2
  clear hi hz0 hz1 hz2
  go_enter Try.func10, Try.ntmps10
  go_wp2
  go_loopw [4, 5] (fun v i wr => ∃ pre : List Rec, i = .int .i64 (endR pre : Int) ∧ scanR l = pre ++ scanR (l.drop (endR pre)) ∧ endR pre ≤ l.length ∧ pre.length ≤ endR pre ∧ RRs w.heap.size wr v pre ∧ Below w.heap.size w wr) (fun _ i _ => l.length - (intOf i).toNat)
  case atStart => exact ⟨[], rfl, by simp [endR], by simp [endR], by simp [endR], World.ownsRow_nil _ _ _ _, Below.refl _ _⟩
  case round =>

    obtain ⟨pre, rfl, hsc, hle, hpl, hO, hB⟩ := hrel
    obtain ⟨k, hk⟩ : ∃ k, endR pre = k := ⟨_, rfl⟩
    rw [hk] at hsc hle hpl ⊢
    have HO := Lib.hid hO
    have HSC := Lib.hid hsc
    have HK := Lib.hid hk
    clear hO hsc hk
    by_cases hlt : k + 4 ≤ l.length
    · have hu : ∃ x0 x1 x2 t, l.drop k = x0 :: x1 :: x2 :: t := by
        have hl : (l.drop k).length = l.length - k := List.length_drop
        match hd : l.drop k, hl with
        | a :: b :: c :: t, _ => exact ⟨a, b, c, t, rfl⟩
        | [_, _], h => simp at h; omega
        | [_], h => simp at h; omega
        | [], h => simp at h; omega
      obtain ⟨x0, x1, x2, t, hu⟩ := hu
      have hg : ∀ j, l[k + j]? = (x0 :: x1 :: x2 :: t)[j]? := fun j => by rw [← hu, List.getElem?_drop]
      have g0 : l[k]? = some x0 := hg 0
      have g1 : l[k + 1]? = some x1 := hg 1
      have g2 : l[k + 2]? = some x2 := hg 2
      have hL : l.length = k + 3 + t.length := by
        have := congrArg List.length hu
        rw [List.length_drop] at this
        simp only [List.length_cons] at this
        omega
      have q1 : (k : Int) + 4 ≤ (l.length : Int) := by omega
      have z0 : (k : Int) < (l.length : Int) := by omega
      have z1 : (k : Int) + 1 < (l.length : Int) := by omega
      have z2 : (k : Int) + 2 < (l.length : Int) := by omega
      have b0 := x0.toNat_lt
      have b1 := x1.toNat_lt
      have hN : x0.toNat + x1.toNat * 256 ≤ 65535 := by omega
      have s0 : ∀ h, (⟨l.toArray⟩ : ByteArray)[k]'h = x0 := strIx l k x0 g0
      have s1 : ∀ h, (⟨l.toArray⟩ : ByteArray)[k + 1]'h = x1 := strIx l _ x1 g1
      have s2 : ∀ h, (⟨l.toArray⟩ : ByteArray)[k + 2]'h = x2 := strIx l _ x2 g2
      have HL := Lib.hid hL
      have j1 : IntKind.i64.wrap ((k : Int) + 1) = (k : Int) + 1 := wrI (by omega) (by omega)
      have j2 : IntKind.i64.wrap ((k : Int) + 2) = (k : Int) + 2 := wrI (by omega) (by omega)
      have e0 : IntKind.i64.wrap (x0.toNat : Int) = (x0.toNat : Int) := wrI (by omega) (by omega)
      have e1 : IntKind.i64.wrap (x1.toNat : Int) = (x1.toNat : Int) := wrI (by omega) (by omega)
      have e2 : IntKind.i64.wrap ((x1.toNat : Int) * 256) = (x1.toNat : Int) * 256 := wrI (by omega) (by omega)
      have e3 := or_bytes x0 x1
      obtain ⟨N, hN0⟩ : ∃ N, N = x0.toNat + x1.toNat * 256 := ⟨_, rfl⟩
      have hF : firstR (l.drop k) = if N < t.length ∧ x2 ≠ 0 ∧ t[N]? = some x2 then some (x2, t.take N) else none := by rw [hu, hN0, firstR]
      rw [← hN0] at e3 hN
      have HF := Lib.hid hF
      have HN0 := Lib.hid hN0
      have hx2 : ((x2.toNat : Int) == 0) = decide (x2 = 0) := by
        rw [Bool.eq_iff_iff]
        simp only [beq_iff_eq, decide_eq_true_eq, ← UInt8.toNat_inj]
        exact Int.natCast_eq_zero
      have hend : firstR (l.drop k) = none → ∀ q, RScan l w (.returned (.tuple #[u4, .int .i64 (k : Int)])) (wr.drewN q) := fun hn q => by
        have e : scanR l = pre := by rw [HSC.out, scanR_none hn, List.append_nil]
        exact ⟨u4, by rw [e, HK.out], by rw [e]; exact HO.out, below_drewN hB q⟩
      have HE := Lib.hid hend
      have HB := Lib.hid hB
      have HX := Lib.hid hx2
      have HU := Lib.hid hu
      have HG := Lib.hid hg
      clear hL b0 b1 hF hN0 hend hB hx2 hu hg g0 g1 g2
      by_cases hA : t.length ≤ N
      · have a1 : (l.length : Int) < (k : Int) + 4 + (N : Int) := by have := HL.out; clear j1 j2 e0 e1 e2 e3; omega
        have hn : firstR (l.drop k) = none := by rw [HF.out, if_neg (by clear j1 j2 e0 e1 e2 e3; omega)]
        go_wp2
        go_quiet (fail)
        go_wp2
        refine bodyPost_ret (by simp [results, Try.f10, go_sem]; try rfl) rfl ?_
        exact HE.out hn _
      have hA' : N < t.length := by clear j1 j2 e0 e1 e2 e3; omega
      have a1 : ¬ (l.length : Int) < (k : Int) + 4 + (N : Int) := by have := HL.out; clear j1 j2 e0 e1 e2 e3; omega
      by_cases hB0 : x2 = 0
      · have a2 : ((x2.toNat : Int) == 0) = true := by rw [HX.out]; simpa using hB0
        have hn : firstR (l.drop k) = none := by rw [HF.out, if_neg (fun h => h.2.1 hB0)]
        go_wp2
        go_quiet (fail)
        go_wp2
        refine bodyPost_ret (by simp [results, Try.f10, go_sem]; try rfl) rfl ?_
        exact HE.out hn _
      have a2 : ((x2.toNat : Int) == 0) = false := by rw [HX.out]; simpa using hB0
      obtain ⟨y, hy⟩ : ∃ y, t[N]? = some y := ⟨_, List.getElem?_eq_getElem hA'⟩
      have a4 : (k : Int) + 3 + (N : Int) < (l.length : Int) := by have := HL.out; clear j1 j2 e0 e1 e2 e3; omega
      have s3 : ∀ h, (⟨l.toArray⟩ : ByteArray)[k + 3 + N]'h = y := strIx l _ y (by
        have := HG.out (3 + N)
        rw [← Nat.add_assoc] at this
        rw [this, Nat.add_comm 3 N]
        simpa using hy)
      have HY := Lib.hid hy
      have hN4 : k + 4 + N ≤ l.length := by have := HL.out; clear j1 j2 e0 e1 e2 e3; omega
      clear hA hy
      by_cases hD : y = x2
      · subst hD
        have hf : firstR (l.drop k) = some (y, t.take N) := by rw [HF.out, if_pos ⟨hA', hB0, HY.out⟩]
        have hst := scanR_step (by rw [HK.out]; exact HSC.out) (by rw [HK.out]; exact hf)
        have hlen : (t.take N).length = N := by rw [List.length_take, Nat.min_eq_left (Nat.le_of_lt hA')]
        have hsx : (⟨l.toArray⟩ : ByteArray).extract (k + 3) (k + 3 + N) = ⟨(t.take N).toArray⟩ := by
          apply ByteArray.ext
          have e : (l.extract (k + 3) (k + 3 + N)) = t.take N := by
            rw [List.extract_eq_take_drop, Nat.add_sub_cancel_left]
            congr 1
            have := HU.out
            rw [← List.drop_drop, this]
            rfl
          rw [← e]
          simp
        have hEn : endR (pre ++ [(y, t.take N)]) = k + 4 + N := by rw [endR_snoc, HK.out, hlen]; omega
        have hrr := rrC_snoc pre (y, t.take N)
        have HST := Lib.hid hst
        have HEn := Lib.hid hEn
        have HRR := Lib.hid hrr
        generalize t.take N = d at hsx HST HEn HRR
        clear hst hEn hrr hf hlen HF HY HE HL HU HG
        go_wp2
        go_quiet (fail)
        rename_i nq
        have hz := HB.out.size
        go_wp2_with (at_builtin; refine wpList_append_own _ rfl _ _ 27 rfl w.heap.size 48 i0 (.agg #[.int .u8 0, .string ⟨#[]⟩]) 2 24 Try.underlying27 HI.out HZ.out HZ1.out HZ2.out rfl (by decide) _ _ _ rfl ((row_drewN HO.out nq).alloc _) ⟨wr.heap.size, 0, none⟩ 1 1 [byV y, .string ⟨d.toArray⟩] rfl rfl (cells2_new (wr.drewN nq) _ _ _) (by intro u hu; simp at hu; rcases hu with rfl | rfl <;> rfl) (by unfold maxLen; omega) (by omega) (by simp; omega) ?_)
        intro v2 w2 own2 g2 _
        have hb2 : Below w.heap.size w w2 := ((below_drewN HB.out nq).alloc (by simpa using hz) _).grown g2 (by simp; omega) (fun q e => (World.ownsRow.lt HO.out q e).1)
        have HR2 : Hid (RRs w.heap.size w2 v2 (pre ++ [(y, d)])) := by
          show World.ownsRow _ _ _ _ _ _ _
          rw [HRR.out, List.length_append]
          exact own2
        have Hb2 := Lib.hid hb2
        clear own2 g2 hb2
        go_wp2
        go_roundw
        case rel => exact ⟨pre ++ [(y, d)], by rw [HEn.out]; simp, HST.out, by rw [HEn.out]; omega, by rw [HEn.out, List.length_append]; simp; omega, HR2.out, Hb2.out⟩
        case measure => simp [intOf]; omega
      · have hne : ((y.toNat : Int) == (x2.toNat : Int)) = false := by
          rw [Bool.eq_false_iff]
          intro h
          exact hD (UInt8.toNat_inj.1 (Int.ofNat_inj.1 (by simpa using h)))
        have hne2 : ¬ (y.toNat = x2.toNat) := fun h => hD (UInt8.toNat_inj.1 h)
        have hne3 : ((y.toNat : Int) != (x2.toNat : Int)) = true := by simp [bne, hne]
        have hn : firstR (l.drop k) = none := by rw [HF.out, if_neg (fun h => hD (by have := HY.out.symm.trans h.2.2; exact Option.some.inj this))]
        go_wp2
        go_quiet (fail)
        go_wp2
        refine bodyPost_ret (by simp [results, Try.f10, go_sem]; try rfl) rfl ?_
        exact HE.out hn _
    · have q1 : ¬ (k : Int) + 4 ≤ (l.length : Int) := by omega
      have e : scanR l = pre := by rw [HSC.out, scanR_none (firstR_short (by rw [List.length_drop]; omega)), List.append_nil]
      have HP : Hid (∀ v, RRs w.heap.size wr v pre → RScan l w (.returned (.tuple #[v, .int .i64 (k : Int)])) wr) := fun v hv => ⟨v, by rw [e, HK.out], by rw [e]; exact hv, hB⟩
      clear hB hlt e
      go_wp2
      refine bodyPost_ret (by simp [results, Try.f10, go_sem]; try rfl) rfl ?_
      exact HP.out _ HO.out
end Go.Proofs.Yteddlpcnefogpaa
