/- Matchers that came in, whatever their length: belfrylaw5.Few, Of. -/
import Derived.Test.YthdoniefjmphaaaGreatDoorMtK
import Derived.Test.YthdoniefjmphaaaGreatDoorOpen
namespace Go.Proofs.YthdoniefjmphaaaGreatDoor
open Go Go.Proofs Go.RowKit Go.Shelf Go.ChangeShapes Go.WideShapes Go.Deep
set_option maxRecDepth 100000
def MtG (n₀ : Nat) (W : World) (sv : Value) (zs : List Itm) : Prop :=
 ((∃ a c, sv = .slice a 0 c) ∧ zs = []) ∨ ∃ b off cap, sv = .slice (some ⟨b, off, none⟩) zs.length cap ∧ b < n₀ ∧ zs.length ≤ cap ∧ cap ≤ 9223372036854775807 ∧ ∀ j x, zs[j]? = some x →
  W.cell? ⟨b, off + j * 3, none⟩ = some (.string ⟨x.1.toArray⟩) ∧ W.cell? ⟨b, off + j * 3 + 1, none⟩ = some (.string ⟨x.2.1.toArray⟩) ∧ W.cell? ⟨b, off + j * 3 + 2, none⟩ = some (.string ⟨x.2.2.toArray⟩)
theorem MtG.len {n₀ : Nat} {W : World} {a : Option Addr} {len cap : Nat} {zs : List Itm} (h : MtG n₀ W (.slice a len cap) zs) : len = zs.length := by
 rcases h with ⟨⟨_, _, e⟩, rfl⟩ | ⟨b, off, c, e, _⟩
 ·
  injection e
 ·
  injection e
theorem mtsG_of_trod {H : Type} {enc : TypeId × Value → H} {W : World} {base : Nat} {spare : Nat → Bool} {held : Bool} {fuel : Nat} {x : DataW H × List MemPlace} {sa : Option Addr} {sl sc : Nat}
  (h : DataW.trod enc Tryz.prog W base spare held fuel 22 [.slice sa sl sc] = some x) :
  ∃ zs : List Itm, zs.length ≤ 9223372036854775807 ∧ (∀ x ∈ zs, x.1.length ≤ 9223372036854775807 ∧ x.2.1.length ≤ 9223372036854775807 ∧ x.2.2.length ≤ 9223372036854775807) ∧ MtG W.heap.size W (.slice sa sl sc) zs := by
 rcases open_slice_fields Tryz.underlying22 Tryz.underlying49 (by kernel_rfl) (by kernel_rfl) h with ⟨hcs, _⟩ | ⟨a, len, cap, m, hcs, _, hl, hm, hmm, hi⟩
 ·
  refine ⟨[], by simp, fun x hx => absurd hx (by simp), .inl ⟨?_, rfl⟩⟩;have e : Value.slice sa sl sc = .slice none 0 0 := by simpa using hcs
  exact ⟨_, _, e⟩
 ·
  have e : Value.slice sa sl sc = .slice (some a) len cap := by simpa using hcs
  have hlm : len ≤ m := by rw [hmm]; split <;> omega
  have hstr : ∀ i, i < len → ∃ s0 s1 s2 : ByteArray, W.cell? (a.add (i * 3)) = some (.string s0) ∧ W.cell? (a.add (i * 3 + 1)) = some (.string s1) ∧ W.cell? (a.add (i * 3 + 2)) = some (.string s2) ∧ s0.size ≤ maxLen ∧ s1.size ≤ maxLen ∧ s2.size ≤ maxLen := by
   intro i hil;obtain ⟨n, hf⟩ := hi i (by omega);obtain ⟨v0, y0, hc0, ht0⟩ := hf 0 _ rfl;obtain ⟨v1, y1, hc1, ht1⟩ := hf 1 _ rfl;obtain ⟨v2, y2, hc2, ht2⟩ := hf 2 _ rfl;obtain ⟨s0, e0, _, b0⟩ := DataW.trod_string Tryz.underlying9 ht0;obtain ⟨s1, e1, _, b1⟩ := DataW.trod_string Tryz.underlying9 ht1;obtain ⟨s2, e2, _, b2⟩ := DataW.trod_string Tryz.underlying9 ht2;simp at e0 e1 e2;subst e0 e1 e2;exact ⟨s0, s1, s2, hc0, hc1, hc2, b0, b1, b2⟩
  by_cases h0 : len = 0
  ·
   exact ⟨[], by simp, fun x hx => absurd hx (by simp), .inl ⟨⟨_, _, by rw [e, h0]⟩, rfl⟩⟩
  ·
   obtain ⟨s0, _, _, hs0, _⟩ := hstr 0 (by omega);rw [Nat.zero_mul, show a.add 0 = a from by simp [Addr.add]] at hs0;have hsp := World.cell?_spot hs0;have hlt := World.block_lt_of_cell? W a hs0;obtain ⟨b, off, spot⟩ := a;dsimp only at hsp hlt;subst hsp;refine ⟨(List.range len).map fun i => (strAt W ⟨b, off + i * 3, none⟩, strAt W ⟨b, off + i * 3 + 1, none⟩, strAt W ⟨b, off + i * 3 + 2, none⟩), ?_, ?_, .inr ⟨b, off, cap, ?_, hlt, by rw [List.length_map, List.length_range]; exact hl, by unfold maxLen at hm; omega, ?_⟩⟩
   ·
    rw [List.length_map, List.length_range]; unfold maxLen at hm; omega
   ·
    intro x hx;obtain ⟨i, hir, rfl⟩ := List.mem_map.1 hx;obtain ⟨s0, s1, s2, c0, c1, c2, b0, b1, b2⟩ := hstr i (List.mem_range.1 hir);rw [Addr.add_lit] at c0 c1 c2;rw [← Nat.add_assoc] at c1 c2;unfold maxLen at b0 b1 b2;simp only [strAt, c0, c1, c2];rw [← Lib.size_eq, ← Lib.size_eq, ← Lib.size_eq];omega
   ·
    rw [List.length_map, List.length_range]; exact e
   ·
    intro j x hj;rw [List.getElem?_map] at hj;cases hr : (List.range len)[j]? with
    | none => rw [hr] at hj; cases hj
    | some i =>
     rw [hr] at hj;obtain ⟨hjl, hji⟩ := List.getElem?_eq_some_iff.1 hr;rw [List.getElem_range] at hji;subst hji;cases hj
     obtain ⟨s0, s1, s2, c0, c1, c2, _, _, _⟩ := hstr j (by simpa using hjl);rw [Addr.add_lit] at c0 c1 c2;rw [← Nat.add_assoc] at c1 c2;simp only [strAt, c0, c1, c2];refine ⟨?_, ?_, ?_⟩ <;> first | rfl | trivial
def fewI (x : Itm) : Bool := decide (x.1.length ≤ 100) && decide (x.2.1.length ≤ 10) && decide (x.2.2.length ≤ 200)
def fewIs (zs : List Itm) : Bool := decide (zs.length ≤ 12) && zs.all fewI
theorem few5_any (a : Option Addr) (len cap : Nat) (zs : List Itm) (hlen : zs.length ≤ 9223372036854775807) (hbig : ∀ x ∈ zs, x.1.length ≤ 9223372036854775807 ∧ x.2.1.length ≤ 9223372036854775807 ∧ x.2.2.length ≤ 9223372036854775807) (n₀ : Nat) (w : World) (hI : MtG n₀ w (.slice a len cap) zs) :
  Calls Tryz.prog 7 #[.slice a len cap] w fun e w' => e = .returned (.bool (fewIs zs)) ∧ w = w' := by
 obtain rfl : len = zs.length := hI.len;by_cases h30 : 12 < zs.length
 ·
  have hz : (12 : Int) < (zs.length : Int) := by omega
  have HR : Hid (fewIs zs = false) := by unfold Hid fewIs; rw [decide_eq_false (by omega)]; rfl
  go_enter Tryz.func7, Tryz.ntmps7
  go_wp2
  go_ret
  exact ⟨by rw [HR.out]; rfl, rfl⟩
 have hz : ¬ (12 : Int) < (zs.length : Int) := by omega
 have HR : Hid (fewIs zs = zs.all fewI) := by unfold Hid fewIs; rw [decide_eq_true (by omega)]; rfl
 have HI := Lib.hid hI;have HB := Lib.hid hbig;clear hI hbig;go_enter Tryz.func7, Tryz.ntmps7
 go_wp2
 go_loop [3] (fun i => ∃ k : Nat, k ≤ zs.length ∧ i = .int .i64 (k : Int) ∧ (zs.take k).all fewI = true) (fun i => zs.length - (intOf i).toNat)
 case atStart => exact ⟨0, Nat.zero_le _, rfl, rfl⟩
 case round =>
  obtain ⟨k, hk, rfl, hP⟩ := hrel;by_cases hlt : k < zs.length
  ·
   obtain ⟨x, hx⟩ : ∃ x, zs[k]? = some x := ⟨_, List.getElem?_eq_getElem hlt⟩;obtain ⟨hn, he⟩ := List.getElem?_eq_some_iff.1 hx;have hsn : (zs.take (k + 1)).all fewI = fewI x := by rw [List.take_succ_eq_append_getElem hn, he, List.all_append, hP]; simp
   obtain ⟨b1, b2, b3⟩ := HB.out x (List.mem_of_getElem? hx);have NO : Hid (fewI x = false → zs.all fewI = false) := fun h => by rw [List.all_eq_false]; exact ⟨x, List.mem_of_getElem? hx, by rw [h]; simp⟩
   rcases HI.out with ⟨_, rfl⟩ | ⟨b, off, c, e, hb, _, _, hc⟩
   ·
    simp at hlt
   obtain ⟨rfl, rfl⟩ : a = some ⟨b, off, none⟩ ∧ cap = c := by simpa using e
   obtain ⟨c0, c1, c2⟩ := hc k x hx;obtain ⟨xn, xo, xv⟩ := x;dsimp only at b1 b2 b3 c0 c1 c2;have h0 : (0 : Int) ≤ (k : Int) := by omega
   have h1 : (k : Int) < (zs.length : Int) := by omega
   have FL : Hid (fewI (xn, xo, xv) = (decide (xn.length ≤ 100) && decide (xo.length ≤ 10) && decide (xv.length ≤ 200))) := rfl;have SN := Lib.hid hsn;clear e hc hx hP he hsn;by_cases q1 : xn.length ≤ 100
   ·
    have p1 : ¬ (100 : Int) < (xn.length : Int) := by omega
    by_cases q2 : xo.length ≤ 10
    ·
     have p2 : ¬ (10 : Int) < (xo.length : Int) := by omega
     by_cases q3 : xv.length ≤ 200
     ·
      have p3 : ¬ (200 : Int) < (xv.length : Int) := by omega
      go_wp2
      go_round
      case rel => exact ⟨k + 1, by omega, by go_num, by rw [SN.out, FL.out, decide_eq_true q1, decide_eq_true q2, decide_eq_true q3]; rfl⟩
      case measure => simp [intOf]; omega
     ·
      have p3 : (200 : Int) < (xv.length : Int) := by omega
      go_wp2
      go_ret
      exact ⟨by rw [HR.out, NO.out (by rw [FL.out, decide_eq_false q3, Bool.and_false])]; rfl, rfl⟩
    ·
     have p2 : (10 : Int) < (xo.length : Int) := by omega
     go_wp2
     go_ret
     exact ⟨by rw [HR.out, NO.out (by rw [FL.out, decide_eq_false q2, Bool.and_false]; rfl)]; rfl, rfl⟩
   ·
    have p1 : (100 : Int) < (xn.length : Int) := by omega
    go_wp2
    go_ret
    exact ⟨by rw [HR.out, NO.out (by rw [FL.out, decide_eq_false q1]; rfl)]; rfl, rfl⟩
  ·
   obtain rfl : k = zs.length := by omega
   rw [List.take_length] at hP;have PP := Lib.hid hP;clear hP;go_wp2
   go_ret
   exact ⟨by rw [HR.out, PP.out]; rfl, rfl⟩
theorem few5_short {zs : List Itm} (h : fewIs zs = true) : ∃ ss : List SItm, ss.map (·.1) = zs ∧ ss.length ≤ 12 := by
 unfold fewIs at h;rw [Bool.and_eq_true, decide_eq_true_eq, List.all_eq_true] at h;obtain ⟨hl, ha⟩ := h;have hs : ∀ x ∈ zs, ShortI x := fun x hx => by
  have := ha x hx;unfold fewI at this;rw [Bool.and_eq_true, Bool.and_eq_true, decide_eq_true_eq, decide_eq_true_eq, decide_eq_true_eq] at this;unfold ShortI; omega
 refine ⟨zs.attach.map fun x => ⟨x.1, hs x.1 x.2⟩, ?_, ?_⟩
 ·
  rw [List.map_map];show zs.attach.map (fun x => x.1) = zs;exact List.attach_map_subtype_val zs
 ·
  rw [List.length_map, List.length_attach]; exact hl
theorem info_rmat : (Tryz.prog.info? 43).map (fun i => (i.zero, i.size, i.bytes)) = some (some (.agg #[.string ⟨#[]⟩, .string ⟨#[]⟩, .string ⟨#[]⟩]), 3, 48) := by kernel_rfl
def NewM (w : World) (zs : List SItm) (e : Ending) (w' : World) : Prop := ∃ v, e = .returned v ∧ w'.ownsRow w.heap.size 43 3 v zs.length (itmC zs) ∧ Below w.heap.size w w'
set_option maxHeartbeats 4000000 in
theorem of5_any (a : Option Addr) (len cap : Nat) (zs : List SItm) (hlen : zs.length ≤ 100) (w : World) (hI : MtL w.heap.size w (.slice a len cap) zs) :
  Calls Tryz.prog 10 #[.slice a len cap] w (NewM w zs) := by
 obtain ⟨i0, hi, hz0, hz1, hz2⟩ := info_parts info_rmat;have HI0 := Lib.hid hi;have HZ := Lib.hid hz0;have HZ1 := Lib.hid hz1;have HZ2 := Lib.hid hz2;clear hi hz0 hz1 hz2;obtain rfl : len = zs.length := hI.len;have HI := Lib.hid hI;clear hI;go_enter Tryz.func10, Tryz.ntmps10
 go_wp2
 go_loopw [3, 4] (fun v i wr => ∃ k : Nat, k ≤ zs.length ∧ i = .int .i64 (k : Int) ∧ wr.ownsRow w.heap.size 43 3 v k (itmC (zs.take k)) ∧ Below w.heap.size w wr) (fun _ i _ => zs.length - (intOf i).toNat)
 case atStart => exact ⟨0, Nat.zero_le _, rfl, World.ownsRow_nil _ _ _ _, Below.refl _ _⟩
 case round =>
  obtain ⟨k, hk, rfl, hO, hB⟩ := hrel;by_cases hlt : k < zs.length
  ·
   obtain ⟨x, hx⟩ : ∃ x, zs[k]? = some x := ⟨_, List.getElem?_eq_getElem hlt⟩;obtain ⟨hn, he⟩ := List.getElem?_eq_some_iff.1 hx;have hsn : itmC (zs.take (k + 1)) = itmC (zs.take k) ++ [.string ⟨x.1.1.toArray⟩, .string ⟨x.1.2.1.toArray⟩, .string ⟨x.1.2.2.toArray⟩] := by rw [List.take_succ_eq_append_getElem hn, he, itmC_snoc]
   rcases HI.out.below hB with ⟨_, rfl⟩ | ⟨b, off, c, e, hb, hc⟩
   ·
    simp at hlt
   obtain ⟨rfl, rfl⟩ : a = some ⟨b, off, none⟩ ∧ cap = c := by simpa using e
   obtain ⟨c0, c1, c2⟩ := hc k x hx;obtain ⟨⟨xn, xo, xv⟩, hx0⟩ := x;dsimp only at hsn c0 c1 c2;have h0 : (0 : Int) ≤ (k : Int) := by omega
   have h1 : (k : Int) < (zs.length : Int) := by omega
   have SN := Lib.hid hsn;have HO := Lib.hid hO;clear e hc hx he hsn hO;go_wp2
   go_region_law (refine step_append_own rfl _ _ 29 rfl w.heap.size 43 i0 (.agg #[.string ⟨#[]⟩, .string ⟨#[]⟩, .string ⟨#[]⟩]) 3 48 Tryz.underlying29 HI0.out HZ.out HZ1.out HZ2.out rfl (by decide) _ k _ (by simp [Act.eval, Act.put]) (HO.out.drew.alloc _) ⟨wr.heap.size, 0, none⟩ 1 1 [.string ⟨xn.toArray⟩, .string ⟨xo.toArray⟩, .string ⟨xv.toArray⟩] (by simp [Act.eval, Act.put]) rfl (cells3_new _ _ _ _ _) (by intro u hu; simp at hu; rcases hu with rfl | rfl | rfl <;> rfl) (by unfold maxLen; omega) (by omega) (by have := hB.size; simp; omega) ?_; intro v' w1 hown' hgrow)
   all_goals
    have hB2 : Below w.heap.size w w1 := ((hB.alloc hB.size _).drew).grown hgrow (by have := hB.size; simp; omega) (fun q eq => by
     rcases HO.out.2 with ⟨rfl, _⟩ | ⟨g, cp, cur, rfl, hbg, _⟩
     ·
      simp [Value.ownBlock] at eq
     ·
      obtain rfl : g = q := by simpa [Value.ownBlock] using eq
      exact hbg)
    have HO2 := Lib.hid hown';clear hown' hgrow;go_wp2
    go_roundw
    case rel => exact ⟨k + 1, by omega, by go_num, by rw [SN.out]; exact HO2.out, hB2⟩
    case measure => simp [intOf]; omega
  ·
   obtain rfl : k = zs.length := by omega
   rw [List.take_length] at hO;have HO := Lib.hid hO;clear hO;go_wp2
   go_ret
   exact ⟨_, rfl, HO.out, hB⟩
end Go.Proofs.YthdoniefjmphaaaGreatDoor
