/- Sync, Replace; Of, New, Twin, Bytes. -/
import Derived.Test.YteddlpcnefogpaaDkG
namespace Go.Proofs.Yteddlpcnefogpaa
open Go Go.Proofs Go.RowKit Go.Shelf
set_option maxRecDepth 100000
theorem DkAt.mono {base base' : Nat} {w : World} {b : Nat} {v : Value} {d : Dk} (h : DkAt base w b v d) (hb : base' ≤ base) : DkAt base' w b v d :=
  ⟨Nat.le_trans hb h.ge, h.blk, ⟨h.own.1, by
    rcases h.own.2 with hn | ⟨g, cap, cur, q1, q2, q3⟩
    · exact .inl hn
    · exact .inr ⟨g, cap, cur, q1, Nat.le_trans hb q2, q3⟩⟩, h.fits⟩
theorem Dk.fin_01 (d : Dk) : d.fin.1 = 0 ∨ d.fin.1 = 13 := by
  unfold Dk.fin
  split
  · exact .inr rfl
  · split
    · exact .inr rfl
    · exact .inl rfl
set_option maxHeartbeats 4000000 in
theorem sync_any (base b : Nat) (v : Value) (d : Dk) (w : World) (h : DkAt base w b v d) (hops : d.ops < 4611686018427387904) :
    Calls Try.prog 34 #[.pointer (some ⟨b, 0, none⟩)] w (OpPost base b v d.sync w) := by
  have HN0 := end_any base b v d w h hops
  have hp0 : d.sync = (if d.fin.1 = 0 then ((0 : Int), ({ d.fin.2 with kept := d.fin.2.row.length } : Dk)) else d.fin) := rfl
  have h01 := d.fin_01
  generalize d.fin = R at *
  obtain ⟨r, d1⟩ := R
  have HN := Lib.hid HN0
  dsimp only at h01 hp0
  rcases h01 with rfl | rfl
  · have hp : Hid (d.sync = (0, { d1 with kept := d1.row.length })) := by show _ = _; rw [hp0, if_pos rfl]
    clear h hp0 HN0
    go_enter Try.func34, Try.ntmps34
    go_wp2_with fail
    refine HN.out.mono ?_
    rintro e w1 ⟨rfl, v1, D1, T1⟩
    obtain ⟨a1, c1, rfl⟩ := row_slice D1
    have hA1 := D1.at.f6
    have hl := D1.fits.len
    have HP : Hid (OpPost base b v d.sync w (.returned (.int .i64 0)) (w1.setCell ⟨b, 1, none⟩ (.int .i64 (d1.row.length : Int)))) := by
      rw [hp.out]
      exact ⟨rfl, _, ⟨D1.ge, blk_set D1.blk 1 _, D1.own.kept (grownBy_set w1 b 1 _) (.inr D1.not_row), ⟨D1.fits.len, Nat.le_refl _, D1.fits.arm0, D1.fits.arm1, D1.fits.lv0, D1.fits.lv1, D1.fits.ops0, D1.fits.ops1⟩⟩, T1.trans DTo.set⟩
    clear D1 T1 HN
    go_wp2
    go_ret
    exact HP.out
  · have hp : Hid (d.sync = (13, d1)) := by show _ = _; rw [hp0, if_neg (by decide)]
    clear h hp0 HN0
    go_enter Try.func34, Try.ntmps34
    go_wp2_with fail
    refine HN.out.mono ?_
    rintro e w1 ⟨rfl, v1, D1, T1⟩
    have HP : Hid (OpPost base b v d.sync w (.returned (.int .i64 13)) w1) := by rw [hp.out]; exact ⟨rfl, v1, D1, T1⟩
    clear D1 T1 HN
    go_wp2
    go_ret
    exact HP.out
set_option maxHeartbeats 4000000 in
theorem replace_any (base b : Nat) (v bv : Value) (d : Dk) (zs : List UInt8) (w : World) (h : DkAt base w b v d) (hI : Bys w bv zs) (hz : zs ≠ [] → ∀ g, bv.ownBlock = some g → v.ownBlock ≠ some g ∧ g ≠ b) (hops : d.ops < 4611686018427387904) (hbig : zs.length ≤ 549755813888) :
    Calls Try.prog 29 #[.pointer (some ⟨b, 0, none⟩), bv] w (OpPost base b v (d.replace zs) w) := by
  have HN0 := end_any base b v d w h hops
  have hp0 : d.replace zs = (if d.fin.1 = 0 then ((0 : Int), ({ d.fin.2 with row := zs, kept := zs.length } : Dk)) else d.fin) := rfl
  have h01 := d.fin_01
  generalize d.fin = R at *
  obtain ⟨r, d1⟩ := R
  have HN := Lib.hid HN0
  dsimp only at h01 hp0
  rcases h01 with rfl | rfl
  · have hp : Hid (d.replace zs = (0, { d1 with row := zs, kept := zs.length })) := by show _ = _; rw [hp0, if_pos rfl]
    have hlen : ∃ a cap, bv = .slice a zs.length cap := by
      rcases hI with ⟨⟨a, c, rfl⟩, rfl⟩ | ⟨b, off, cap, rfl, _⟩
      · exact ⟨_, _, rfl⟩
      · exact ⟨_, _, rfl⟩
    obtain ⟨ba, bc, rfl⟩ := hlen
    have HI := Lib.hid hI
    have HZ := Lib.hid hz
    have H := Lib.hid h
    clear h hp0 HN0 hI hz
    go_enter Try.func29, Try.ntmps29
    go_wp2_with fail
    refine HN.out.mono ?_
    rintro e w1 ⟨rfl, v1, D1, T1⟩
    have hI1 : Bys w1 (.slice ba zs.length bc) zs := by
      by_cases hzz : zs = []
      · subst hzz; exact .inl ⟨⟨_, _, rfl⟩, rfl⟩
      · exact HI.out.same T1.size (fun g e => T1.block g (HI.out.lt hzz g e) (HZ.out hzz g e).2 (HZ.out hzz g e).1)
    have HBh := Lib.hid (behind_any base (.slice none 0 0) (.slice ba zs.length bc) [] zs w1 (World.ownsRow_nil w1 base _ 1) hI1 (fun _ _ _ e => by simp [Value.ownBlock] at e) (by simp; omega) (Nat.le_of_lt (Nat.lt_of_le_of_lt D1.ge D1.lt)))
    have HD1 := Lib.hid D1
    have HT1 := Lib.hid T1
    clear D1 T1 HN hI1
    go_wp2_with fail
    refine HBh.out.mono ?_
    rw [List.nil_append]
    rintro e w2 ⟨v2, rfl, ⟨a2, c2, rfl⟩, own2, g2, n2⟩
    have b2 : w2.heap[b]? = _ := (g2.block b HD1.out.lt (fun e => by simp [Value.ownBlock] at e)).trans HD1.out.blk
    have hA2 := (At.of_block b2).f6
    have nr2 : (Value.slice a2 zs.length c2).ownBlock ≠ some b := fun e => by
      rcases n2 b e with q | q
      · simp [Value.ownBlock] at q
      · have := HD1.out.lt
        omega
    have HP : Hid (OpPost base b v (d.replace zs) w (.returned (.int .i64 0)) ((w2.setCell ⟨b, 0, none⟩ (.slice a2 zs.length c2)).setCell ⟨b, 1, none⟩ (.int .i64 (zs.length : Int)))) := by
      rw [hp.out]
      refine ⟨rfl, _, ⟨HD1.out.ge, blk_set (blk_set b2 0 _) 1 _, (own2.kept (grownBy_set w2 b 0 _) (.inr nr2)).kept (grownBy_set _ b 1 _) (.inr nr2), ⟨hbig, Nat.le_refl _, HD1.out.fits.arm0, HD1.out.fits.arm1, HD1.out.fits.lv0, HD1.out.fits.lv1, HD1.out.fits.ops0, HD1.out.fits.ops1⟩⟩, ?_⟩
      refine HT1.out.trans (DTo.trans ?_ (DTo.set.trans DTo.set))
      exact ⟨g2.os, g2.tape, g2.output, g2.size, fun k hk _ _ => g2.block k hk (fun e => by simp [Value.ownBlock] at e), fun g e => .inr (by rcases n2 g e with q | q <;> first | exact q | (simp [Value.ownBlock] at q))⟩
    clear b2 own2 g2 n2 nr2 HBh
    go_wp2
    go_ret
    exact HP.out
  · have hp : Hid (d.replace zs = (13, d1)) := by show _ = _; rw [hp0, if_neg (by decide)]
    clear h hp0 HN0 hI hz
    go_enter Try.func29, Try.ntmps29
    go_wp2_with fail
    refine HN.out.mono ?_
    rintro e w1 ⟨rfl, v1, D1, T1⟩
    have HP : Hid (OpPost base b v (d.replace zs) w (.returned (.int .i64 13)) w1) := by rw [hp.out]; exact ⟨rfl, v1, D1, T1⟩
    clear D1 T1 HN
    go_wp2
    go_ret
    exact HP.out
/-- bytes of a row in memory -/
theorem Bys.of_row {base : Nat} {w : World} {v : Value} {l : List UInt8} (h : w.ownsRow base 5 1 v l.length (Lib.byteCells l)) : Bys w v l := by
  rcases h.2 with ⟨rfl, h0⟩ | ⟨g, cap, cur, rfl, _, hg, _⟩
  · exact .inl ⟨⟨_, _, rfl⟩, List.eq_nil_of_length_eq_zero h0⟩
  · refine .inr ⟨g, 0, cap, rfl, (Array.getElem?_eq_some_iff.1 hg).1, fun j x hj => ?_⟩
    have := World.ownsRow.cells h (g := g) rfl j (byV x) (by simp [Lib.byteCells, hj])
    rwa [Addr.add_lit] at this
theorem bytes_any (base b : Nat) (v : Value) (d : Dk) (w : World) (h : DkAt base w b v d) :
    Calls Try.prog 15 #[.pointer (some ⟨b, 0, none⟩)] w (BehindPost w.heap.size (.slice none 0 0) d.row w) := by
  have hA := h.at.f6
  have hl := h.fits.len
  have HB := Lib.hid (behind_any w.heap.size (.slice none 0 0) v [] d.row w (World.ownsRow_nil w _ _ 1) (Bys.of_row h.own) (fun _ _ _ e => by simp [Value.ownBlock] at e) (by simp; omega) (Nat.le_refl _))
  clear h
  go_enter Try.func15, Try.ntmps15
  go_wp2_with fail
  refine HB.out.mono ?_
  rw [List.nil_append]
  rintro e w1 ⟨v1, rfl, hv1, own1, g1, n1⟩
  have HP : Hid (BehindPost w.heap.size (.slice none 0 0) d.row w (.returned v1) w1) := ⟨v1, rfl, hv1, own1, g1, n1⟩
  clear hv1 own1 g1 n1 HB
  go_wp2
  go_ret
  exact HP.out
/-- a disk of bytes, all of them kept -/
def Dk.of (l : List UInt8) : Dk := { row := l, kept := l.length, off := false, armed := 0, leave := 0, ops := 0 }
/-- a new disk -/
def NewPost (d : Dk) (w : World) (e : Ending) (w' : World) : Prop :=
  ∃ b v, e = .returned (.pointer (some ⟨b, 0, none⟩)) ∧ DkAt w.heap.size w' b v d ∧ w.grownBy w' none
theorem of_any (bv : Value) (zs : List UInt8) (w : World) (hI : Bys w bv zs) (hbig : zs.length ≤ 549755813888) :
    Calls Try.prog 12 #[bv] w (NewPost (Dk.of zs) w) := by
  have hlen : ∃ a cap, bv = .slice a zs.length cap := by
    rcases hI with ⟨⟨a, c, rfl⟩, rfl⟩ | ⟨b, off, cap, rfl, _⟩
    · exact ⟨_, _, rfl⟩
    · exact ⟨_, _, rfl⟩
  obtain ⟨ba, bc, rfl⟩ := hlen
  have HB := Lib.hid (behind_any w.heap.size (.slice none 0 0) (.slice ba zs.length bc) [] zs w (World.ownsRow_nil w _ _ 1) hI (fun _ _ _ e => by simp [Value.ownBlock] at e) (by simp; omega) (Nat.le_refl _))
  clear hI
  go_enter Try.func12, Try.ntmps12
  go_wp2_with fail
  refine HB.out.mono ?_
  rw [List.nil_append]
  rintro e w1 ⟨v1, rfl, ⟨a1, c1, rfl⟩, own1, g1, n1⟩
  have HP : Hid (NewPost (Dk.of zs) w (.returned (.pointer (some ⟨w1.heap.size, 0, none⟩))) (w1.alloc (.cells #[.slice a1 zs.length c1, .int .i64 (zs.length : Int), .bool false, .int .i64 0, .int .i64 0, .int .i64 0] 67))) :=
    ⟨_, _, rfl, ⟨g1.size, heap_alloc_new w1 _, own1.alloc _, ⟨hbig, Nat.le_refl _, Int.le_refl _, by show (0 : Int) ≤ _; omega, by show _ ≤ (0 : Int); omega, by show (0 : Int) ≤ _; omega, Int.le_refl _, by show (0 : Int) ≤ _; omega⟩⟩, grownBy_trans (r := none) (⟨g1.os, g1.tape, g1.output, g1.size, fun k hk _ => g1.block k hk (fun e => by simp [Value.ownBlock] at e)⟩) (World.grownBy_alloc w1 _ none) (fun g e => by cases e)⟩
  clear own1 g1 n1 HB
  go_wp2
  go_ret
  exact HP.out
theorem new_any (w : World) : Calls Try.prog 18 #[] w (NewPost (Dk.of []) w) := by
  have HB := Lib.hid (of_any (.slice none 0 0) [] w (.inl ⟨⟨_, _, rfl⟩, rfl⟩) (by simp))
  go_enter Try.func18, Try.ntmps18
  go_wp2_with fail
  refine HB.out.mono ?_
  rintro e w1 ⟨b, v, rfl, D, g⟩
  have HP : Hid (NewPost (Dk.of []) w (.returned (.pointer (some ⟨b, 0, none⟩))) w1) := ⟨b, v, rfl, D, g⟩
  clear D g HB
  go_wp2
  go_ret
  exact HP.out
end Go.Proofs.Yteddlpcnefogpaa
