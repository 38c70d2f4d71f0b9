/- The ops: end, Append, Sync, Replace; Of, New, Twin, Bytes. -/
import Derived.Test.YteddlpcnefogpaaDkF
namespace Go.Proofs.Yteddlpcnefogpaa
open Go Go.Proofs Go.RowKit Go.Shelf
set_option maxRecDepth 100000
def Dk.fin (d : Dk) : Int × Dk :=
  if d.off = true then (13, d) else if d.armed = 1 then (13, d.cut d.leave) else (0, { d with armed := max (d.armed - 1) 0, ops := d.ops + 1 })
def Dk.append (d : Dk) (b : List UInt8) : Int × Dk := if d.off = true then (13, d) else ({ d with row := d.row ++ b } : Dk).fin
def Dk.sync (d : Dk) : Int × Dk := let r := d.fin; if r.1 = 0 then (0, { r.2 with kept := r.2.row.length }) else r
def Dk.replace (d : Dk) (b : List UInt8) : Int × Dk := let r := d.fin; if r.1 = 0 then (0, { r.2 with row := b, kept := b.length }) else r
/-- what an op answers -/
def OpPost (base b : Nat) (v : Value) (r : Int × Dk) (w : World) (e : Ending) (w' : World) : Prop :=
  e = .returned (.int .i64 r.1) ∧ ∃ v', DkAt base w' b v' r.2 ∧ DTo w w' b v v'
theorem row_slice {base : Nat} {w : World} {b : Nat} {v : Value} {d : Dk} (h : DkAt base w b v d) : ∃ a cap, v = .slice a d.row.length cap := by
  rcases h.own.2 with ⟨rfl, h0⟩ | ⟨g, cap, cur, rfl, _⟩
  · rw [h0]; exact ⟨_, _, rfl⟩
  · exact ⟨_, _, rfl⟩
set_option maxHeartbeats 4000000 in
theorem end_any (base b : Nat) (v : Value) (d : Dk) (w : World) (h : DkAt base w b v d) (hops : d.ops < 4611686018427387904) :
    Calls Try.prog 42 #[.pointer (some ⟨b, 0, none⟩)] w (OpPost base b v d.fin w) := by
  have hA := h.at.f6
  have F := h.fits
  by_cases ho : d.off = true
  · have hp : Hid (OpPost base b v d.fin w (.returned (.int .i64 13)) w) := by
      unfold Dk.fin; rw [if_pos ho]; exact ⟨rfl, v, h, DTo.refl _ _ _⟩
    clear h F
    go_enter Try.func42, Try.ntmps42
    go_wp2
    go_ret
    exact hp.out
  · have ho' : d.off = false := by simpa using ho
    by_cases ha : d.armed = 1
    · have HC := Lib.hid (cut_any base b v d d.leave w h)
      have hp : Hid (d.fin = (13, d.cut d.leave)) := by unfold Dk.fin; rw [if_neg ho, if_pos ha]; rfl
      clear h F ho
      go_enter Try.func42, Try.ntmps42
      go_wp2_with fail
      refine HC.out.mono ?_
      rintro e w1 ⟨rfl, v1, hv1, ht1, _⟩
      have H1 : Hid (OpPost base b v d.fin w (.returned (.int .i64 13)) w1) := by rw [hp.out]; exact ⟨rfl, v1, hv1, ht1⟩
      clear hv1 ht1
      go_wp2
      go_ret
      exact H1.out
    · have hab : (d.armed == 1) = false := by simpa using ha
      have a0 := F.arm0
      have a1 := F.arm1
      have o0 := F.ops0
      have hp : Hid (OpPost base b v d.fin w (.returned (.int .i64 0)) ((w.setCell ⟨b, 3, none⟩ (.int .i64 (max (d.armed - 1) 0))).setCell ⟨b, 5, none⟩ (.int .i64 (d.ops + 1)))) := by
        unfold Dk.fin; rw [if_neg ho, if_neg ha]
        refine ⟨rfl, v, ⟨h.ge, ?_, ?_, ⟨F.len, F.kept, ?_, ?_, F.lv0, F.lv1, ?_, ?_⟩⟩, DTo.set.trans DTo.set⟩
        · exact blk_set (blk_set h.blk 3 _) 5 _
        · exact (h.own.kept (grownBy_set w b 3 _) (.inr h.not_row)).kept (grownBy_set _ b 5 _) (.inr h.not_row)
        · show (0 : Int) ≤ max (d.armed - 1) 0; omega
        · show max (d.armed - 1) 0 ≤ _; omega
        · show (0 : Int) ≤ d.ops + 1; omega
        · show d.ops + 1 ≤ _; omega
      clear h F ho ha
      go_enter Try.func42, Try.ntmps42
      go_wp2
      go_ret
      exact hp.out
set_option maxHeartbeats 4000000 in
theorem append_any (base b : Nat) (v bv : Value) (d : Dk) (zs : List UInt8) (w : World) (h : DkAt base w b v d) (hI : Bys w bv zs) (hz : zs ≠ [] → ∀ g, bv.ownBlock = some g → v.ownBlock ≠ some g) (hops : d.ops < 4611686018427387904) (hbig : d.row.length + zs.length ≤ 549755813888) :
    Calls Try.prog 33 #[.pointer (some ⟨b, 0, none⟩), bv] w (OpPost base b v (d.append zs) w) := by
  have hA := h.at.f6
  have F := h.fits
  by_cases ho : d.off = true
  · have hp : Hid (OpPost base b v (d.append zs) w (.returned (.int .i64 13)) w) := by
      unfold Dk.append; rw [if_pos ho]; exact ⟨rfl, v, h, DTo.refl _ _ _⟩
    clear h F hI
    go_enter Try.func33, Try.ntmps33
    go_wp2
    go_ret
    exact hp.out
  · have ho' : d.off = false := by simpa using ho
    have hp : Hid (d.append zs = ({ d with row := d.row ++ zs } : Dk).fin) := by unfold Dk.append; rw [if_neg ho]; rfl
    have hbh := behind_any base v bv d.row zs w h.own hI hz (by omega) (Nat.le_of_lt (Nat.lt_of_le_of_lt h.ge h.lt))
    have H := Lib.hid h
    have HF := Lib.hid F
    have e : (d.row ++ zs).length = d.row.length + zs.length := List.length_append
    generalize d.row ++ zs = Z at *
    have HB := Lib.hid hbh
    clear hbh
    have HE := Lib.hid e
    clear h F hI ho e hz
    go_enter Try.func33, Try.ntmps33
    go_wp2_with fail
    refine HB.out.mono ?_
    rintro e w1 ⟨v1, rfl, ⟨a1, c1, rfl⟩, own1, g1, n1⟩
    have b1 : w1.heap[b]? = _ := (g1.block b H.out.lt (fun e => H.out.not_row e.symm)).trans H.out.blk
    have hA1 := (At.of_block b1).f6
    have nr1 : (Value.slice a1 Z.length c1).ownBlock ≠ some b := fun e => by
      rcases n1 b e with q | q
      · exact H.out.not_row q
      · have := H.out.lt
        omega
    have D2 : DkAt base (w1.setCell ⟨b, 0, none⟩ (.slice a1 Z.length c1)) b (.slice a1 Z.length c1) { d with row := Z } :=
      ⟨H.out.ge, blk_set b1 0 _, own1.kept (grownBy_set w1 b 0 _) (.inr nr1), ⟨by show Z.length ≤ _; rw [HE.out]; exact hbig, by show d.kept ≤ Z.length; have := HF.out.kept; rw [HE.out]; omega, HF.out.arm0, HF.out.arm1, HF.out.lv0, HF.out.lv1, HF.out.ops0, HF.out.ops1⟩⟩
    have HT : Hid (DTo w (w1.setCell ⟨b, 0, none⟩ (.slice a1 Z.length c1)) b v (.slice a1 Z.length c1)) := (DTo.grown g1 n1).trans DTo.set
    have hN := end_any base b _ _ _ D2 hops
    have hp := hp.out
    generalize ({ d with row := Z } : Dk).fin = R at *
    have HN := Lib.hid hN
    have hp := Lib.hid hp
    clear hN D2 nr1 b1 own1 g1 n1 HB hA
    go_wp2_with fail
    refine HN.out.mono ?_
    rintro e w2 ⟨rfl, v2, D3, T3⟩
    have HP : Hid (OpPost base b v (d.append zs) w (.returned (.int .i64 R.1)) w2) := by rw [hp.out]; exact ⟨rfl, v2, D3, HT.out.trans T3⟩
    clear D3 T3
    go_wp2
    go_ret
    exact HP.out
end Go.Proofs.Yteddlpcnefogpaa
