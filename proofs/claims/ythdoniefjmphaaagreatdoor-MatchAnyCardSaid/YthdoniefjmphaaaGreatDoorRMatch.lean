/- From which places of a text a pattern leads to which: mathematics of the reference's walk. -/
import Derived.Test.YthdoniefjmphaaaGreatDoorPars
import Derived.Test.YthdoniefjmphaaaGreatDoorRPat
import Derived.Deep.RegionHeld3
import Derived.Deep.OwnRows
import Derived.OrdersHeld
import Derived.Laws.Append
import Derived.Lib.AppendZeros
namespace Go.Proofs.YthdoniefjmphaaaGreatDoor.Rx
def Seg (l : List UInt8) (i j : Nat) : List UInt8 := (l.drop i).take (j - i)
theorem seg_self (l : List UInt8) (i : Nat) : Seg l i i = [] := by unfold Seg; simp
theorem seg_len (l : List UInt8) {i j : Nat} (h1 : i ≤ j) (h2 : j ≤ l.length) : (Seg l i j).length = j - i := by unfold Seg; simp; omega
theorem seg_app (l : List UInt8) {i m j : Nat} (h1 : i ≤ m) (h2 : m ≤ j) : Seg l i j = Seg l i m ++ Seg l m j := by
  unfold Seg;have e : l.drop m = (l.drop i).drop (m - i) := by rw [List.drop_drop]; congr 1; omega
  rw [e, show j - i = (m - i) + (j - m) from by omega, List.take_add]
theorem seg_split (l : List UInt8) {i j : Nat} {u v : List UInt8} (h1 : i ≤ j) (h2 : j ≤ l.length) (h : Seg l i j = u ++ v) : ∃ m, i ≤ m ∧ m ≤ j ∧ u = Seg l i m ∧ v = Seg l m j := by
  have hl := seg_len l h1 h2;rw [h, List.length_append] at hl;refine ⟨i + u.length, by omega, by omega, ?_⟩;have e := seg_app l (i := i) (m := i + u.length) (j := j) (by omega) (by omega);rw [h] at e;have hu : u.length = (Seg l i (i + u.length)).length := by rw [seg_len l (by omega) (by omega)]; omega
  exact List.append_inj e hu
theorem seg_one (l : List UInt8) {i j : Nat} {c : UInt8} (h1 : i ≤ j) (h2 : j ≤ l.length) (h : Seg l i j = [c]) : j = i + 1 ∧ l[i]? = some c := by
  have hl := seg_len l h1 h2;rw [h] at hl;have hj : j = i + 1 := by simp at hl; omega
  subst hj;refine ⟨rfl, ?_⟩;have : (Seg l i (i + 1))[0]? = some c := by rw [h]; rfl
  unfold Seg at this;rw [List.getElem?_take] at this;simpa using this
theorem seg_byte (l : List UInt8) {i : Nat} {c : UInt8} (h : l[i]? = some c) : Seg l i (i + 1) = [c] := by
  obtain ⟨hi, e⟩ := List.getElem?_eq_some_iff.1 h;unfold Seg;rw [show i + 1 - i = 1 from by omega, List.take_one, List.head?_drop, h]; rfl
def St (p : Pt) (l : List UInt8) (F : Nat → Prop) (j : Nat) : Prop := ∃ i, i ≤ j ∧ F i ∧ Lang p (Seg l i j)
theorem st_nil {l : List UInt8} {F : Nat → Prop} {j : Nat} : ¬ St .nil l F j := fun ⟨_, _, _, h⟩ => lang_nil h
theorem st_eps {l : List UInt8} {F : Nat → Prop} {j : Nat} (hj : j ≤ l.length) : St .eps l F j ↔ F j := by
  constructor
  · rintro ⟨i, h1, h2, h⟩;have e := lang_eps.1 h;have hl := seg_len l h1 hj;rw [e] at hl;have : i = j := by simp at hl; omega
    subst this; exact h2
  · intro h; exact ⟨j, Nat.le_refl _, h, by rw [seg_self]; exact .eps⟩
theorem st_alt {a b : Pt} {l : List UInt8} {F : Nat → Prop} {j : Nat} : St (.alt a b) l F j ↔ St a l F j ∨ St b l F j := by
  constructor
  · rintro ⟨i, h1, h2, h⟩;rcases lang_alt.1 h with h | h
    · exact Or.inl ⟨i, h1, h2, h⟩
    · exact Or.inr ⟨i, h1, h2, h⟩
  · rintro (⟨i, h1, h2, h⟩ | ⟨i, h1, h2, h⟩)
    · exact ⟨i, h1, h2, .altL h⟩
    · exact ⟨i, h1, h2, .altR h⟩
theorem st_opt {a : Pt} {l : List UInt8} {F : Nat → Prop} {j : Nat} (hj : j ≤ l.length) : St (.opt a) l F j ↔ F j ∨ St a l F j := by
  constructor
  · rintro ⟨i, h1, h2, h⟩;rcases lang_opt.1 h with h | h
    · exact Or.inl ((st_eps hj).1 ⟨i, h1, h2, lang_eps.2 h⟩)
    · exact Or.inr ⟨i, h1, h2, h⟩
  · rintro (h | ⟨i, h1, h2, h⟩)
    · exact ⟨j, Nat.le_refl _, h, by rw [seg_self]; exact .opt0⟩
    · exact ⟨i, h1, h2, .opt1 h⟩
theorem st_seq {a b : Pt} {l : List UInt8} {F : Nat → Prop} {j : Nat} (hj : j ≤ l.length) : St (.seq a b) l F j ↔ St b l (St a l F) j := by
  constructor
  · rintro ⟨i, h1, h2, h⟩;obtain ⟨u, v, e, ha, hb⟩ := lang_seq.1 h;obtain ⟨m, m1, m2, rfl, rfl⟩ := seg_split l h1 hj e;exact ⟨m, m2, ⟨i, m1, h2, ha⟩, hb⟩
  · rintro ⟨m, m2, ⟨i, m1, h2, ha⟩, hb⟩;exact ⟨i, by omega, h2, by rw [seg_app l m1 m2]; exact .seq ha hb⟩
theorem st_leaf {m : Nat} {l : List UInt8} {F : Nat → Prop} {j : Nat} (hj : j ≤ l.length) : St (.leaf m) l F j ↔ ∃ i, j = i + 1 ∧ F i ∧ ∃ c, l[i]? = some c ∧ m.testBit c.toNat = true := by
  constructor
  · rintro ⟨i, h1, h2, h⟩;obtain ⟨c, e, hc⟩ := lang_leaf.1 h;obtain ⟨e1, e2⟩ := seg_one l h1 hj e;exact ⟨i, e1, h2, c, e2, hc⟩
  · rintro ⟨i, rfl, h2, c, e, hc⟩;exact ⟨i, Nat.le_succ _, h2, by rw [seg_byte l e]; exact .leaf hc⟩
theorem star_snoc {a : Pt} {u v : List UInt8} (h : Lang (.star a) u) (k : Lang a v) : Lang (.star a) (u ++ v) := by
  generalize hs : Pt.star a = s at h;induction h with
  | star0 => cases hs; have := Lang.starS k (Lang.star0 (a := a)); rwa [List.append_nil] at this
  | starS h1 h2 _ ih2 => cases hs; rw [List.append_assoc]; exact .starS h1 (ih2 rfl)
  | _ => cases hs
theorem plus_snoc {a : Pt} {u v : List UInt8} (h : Lang (.plus a) u) (k : Lang a v) : Lang (.plus a) (u ++ v) := by
  generalize hs : Pt.plus a = s at h;induction h with
  | plus1 h => cases hs; exact .plusS h (.plus1 k)
  | plusS h1 h2 _ ih2 => cases hs; rw [List.append_assoc]; exact .plusS h1 (ih2 rfl)
  | _ => cases hs
theorem st_star_least {a : Pt} {l : List UInt8} {F X : Nat → Prop} (h0 : ∀ j, j ≤ l.length → F j → X j) (h1 : ∀ j, j ≤ l.length → St a l X j → X j) : ∀ j, j ≤ l.length → St (.star a) l F j → X j := by
  have key : ∀ u, Lang (.star a) u → ∀ i j, i ≤ j → j ≤ l.length → Seg l i j = u → X i → X j := by
    intro u hu;generalize hs : Pt.star a = s at hu;induction hu with
    | star0 =>
      intro i j hi hj e hx;have hl := seg_len l hi hj;rw [e] at hl;have : i = j := by simp at hl; omega
      subst this; exact hx
    | starS h k _ ih2 =>
      cases hs
      intro i j hi hj e hx;obtain ⟨m, m1, m2, rfl, rfl⟩ := seg_split l hi hj e;exact ih2 rfl m j m2 hj rfl (h1 m (by omega) ⟨i, m1, hx, h⟩)
    | _ => cases hs
  rintro j hj ⟨i, hi, hf, h⟩;exact key _ h i j hi hj rfl (h0 i (by omega) hf)
theorem st_plus_least {a : Pt} {l : List UInt8} {F X : Nat → Prop} (h0 : ∀ j, j ≤ l.length → St a l F j → X j) (h1 : ∀ j, j ≤ l.length → St a l X j → X j) : ∀ j, j ≤ l.length → St (.plus a) l F j → X j := by
  rintro j hj ⟨i, hi, hf, h⟩;obtain ⟨u, v, e, hu, hv⟩ := plus_star h;obtain ⟨m, m1, m2, rfl, rfl⟩ := seg_split l hi hj e;exact st_star_least (F := fun q => q = m) (X := X) (fun q hq e => by subst e; exact h0 q hq ⟨i, m1, hf, hu⟩) h1 j hj ⟨m, m2, rfl, hv⟩
theorem st_star_in {a : Pt} {l : List UInt8} {F : Nat → Prop} {j : Nat} (h : F j) : St (.star a) l F j := ⟨j, Nat.le_refl _, h, by rw [seg_self]; exact .star0⟩
theorem st_star_on {a : Pt} {l : List UInt8} {F X : Nat → Prop} (hX : ∀ j, j ≤ l.length → X j → St (.star a) l F j) {j : Nat} (hj : j ≤ l.length) (h : St a l X j) : St (.star a) l F j := by
  obtain ⟨m, m2, hx, h⟩ := h;obtain ⟨i, m1, hf, k⟩ := hX m (by omega) hx;exact ⟨i, by omega, hf, by rw [seg_app l m1 m2]; exact star_snoc k h⟩
theorem st_plus_in {a : Pt} {l : List UInt8} {F : Nat → Prop} {j : Nat} (h : St a l F j) : St (.plus a) l F j := by
  obtain ⟨i, h1, h2, h⟩ := h;exact ⟨i, h1, h2, .plus1 h⟩
theorem st_plus_on {a : Pt} {l : List UInt8} {F X : Nat → Prop} (hX : ∀ j, j ≤ l.length → X j → St (.plus a) l F j) {j : Nat} (hj : j ≤ l.length) (h : St a l X j) : St (.plus a) l F j := by
  obtain ⟨m, m2, hx, h⟩ := h;obtain ⟨i, m1, hf, k⟩ := hX m (by omega) hx;exact ⟨i, by omega, hf, by rw [seg_app l m1 m2]; exact plus_snoc k h⟩
theorem st_mono {p : Pt} {l : List UInt8} {F G : Nat → Prop} {j : Nat} (hj : j ≤ l.length) (h : ∀ i, i ≤ l.length → F i → G i) (k : St p l F j) : St p l G j := by
  obtain ⟨i, h1, h2, k⟩ := k;exact ⟨i, h1, h i (by omega) h2, k⟩
theorem st_all (p : Pt) (l : List UInt8) : St p l (fun i => i = 0) l.length ↔ Lang p l := by
  have e : Seg l 0 l.length = l := by unfold Seg; simp
  constructor
  · rintro ⟨i, _, rfl, h⟩; rw [e] at h; exact h
  · intro h; exact ⟨0, Nat.zero_le _, rfl, by rw [e]; exact h⟩
def takesB (neg : Bool) (rs : List (Nat × Nat)) (c : Nat) : Bool := (rs.any fun r => decide (r.1 ≤ c) && decide (c ≤ r.2)) != neg
theorem runM_bit' (a : Nat) : ∀ (m i : Nat), (runM a m).testBit i = true ↔ a ≤ i ∧ i < a + m := by
  intro m;induction m with
  | zero => intro i; simp [runM]
  | succ m ih =>
    intro i;show (runM a m ||| 2 ^ (a + m)).testBit i = true ↔ _;rw [or_bit, ih, Nat.testBit_two_pow];simp only [decide_eq_true_eq];omega
theorem maskR_bit (rs : List (Nat × Nat)) (c : Nat) : (maskR rs).testBit c = rs.any fun r => decide (r.1 ≤ c) && decide (c ≤ r.2) := by
  have key : ∀ (rs : List (Nat × Nat)) (m : Nat), (rs.foldl (fun m r => m ||| runM r.1 (r.2 + 1 - r.1)) m).testBit c = true ↔ m.testBit c = true ∨ (rs.any fun r => decide (r.1 ≤ c) && decide (c ≤ r.2)) = true := by
    intro rs;induction rs with
    | nil => intro m; simp
    | cons r t ih =>
      intro m;rw [List.foldl_cons, ih, or_bit, runM_bit', List.any_cons, Bool.or_eq_true, or_assoc];have : (r.1 ≤ c ∧ c < r.1 + (r.2 + 1 - r.1)) ↔ (decide (r.1 ≤ c) && decide (c ≤ r.2)) = true := by
        rw [Bool.and_eq_true, decide_eq_true_iff, decide_eq_true_iff]; omega
      rw [this]
  rw [Bool.eq_iff_iff];unfold maskR;rw [key]; simp
theorem maskB_bit (neg : Bool) (rs : List (Nat × Nat)) (h : ∀ r ∈ rs, r.2 ≤ 126) (c : Nat) (hc : c < 256) : (maskB neg rs).testBit c = takesB neg rs c := by
  unfold maskB takesB;cases neg
  · rw [if_neg (by decide), maskR_bit]; simp
  · rw [if_pos rfl];have hlt : maskR rs < 2 ^ 256 := by
      apply Nat.lt_pow_two_of_testBit;intro i hi;rw [maskR_bit, List.any_eq_false];intro r hr;have := h r hr;simp; omega
    rw [show fullM - maskR rs = 2 ^ 256 - (maskR rs + 1) from by unfold fullM; omega, Nat.testBit_two_pow_sub_succ hlt, maskR_bit, decide_eq_true hc, Bool.true_and];cases (rs.any fun r => decide (r.1 ≤ c) && decide (c ≤ r.2)) <;> rfl
theorem fullM_bit (c : Nat) (hc : c < 256) : fullM.testBit c = true := by
  unfold fullM; rw [Nat.testBit_two_pow_sub_one]; exact decide_eq_true hc
end Go.Proofs.YthdoniefjmphaaaGreatDoor.Rx
namespace Go.Proofs.YthdoniefjmphaaaGreatDoor
open Go Go.Proofs Go.RowKit Go.Shelf
set_option maxRecDepth 100000
attribute [local go_sem] cell_set
theorem takes_dot (xb : Bool) (sa ka : Option Addr) (sl sc kl kc : Nat) (c : UInt8) (w : World) :
    Calls Tryz.prog 62 #[.agg #[.int .u8 46, .bool xb, .slice sa sl sc, .slice ka kl kc], .int .u8 (c.toNat : Int)] w fun e w' => e = .returned (.bool true) ∧ Below w.heap.size w w' := by
  go_enter Tryz.func62, Tryz.ntmps62
  go_wp2
  go_ret
  exact ⟨rfl, by go_grown⟩
theorem any_snoc (rs : List (Nat × Nat)) (c k : Nat) (r : Nat × Nat) (h : rs[k]? = some r) : (rs.take (k + 1)).any (fun r => decide (r.1 ≤ c) && decide (c ≤ r.2)) = ((rs.take k).any (fun r => decide (r.1 ≤ c) && decide (c ≤ r.2)) || (decide (r.1 ≤ c) && decide (c ≤ r.2))) := by
  obtain ⟨hk, e⟩ := List.getElem?_eq_some_iff.1 h;rw [List.take_succ_eq_append_getElem hk, e, List.any_append]; simp
theorem any_here (rs : List (Nat × Nat)) (c k : Nat) (r : Nat × Nat) (h : rs[k]? = some r) (hc : (decide (r.1 ≤ c) && decide (c ≤ r.2)) = true) : rs.any (fun r => decide (r.1 ≤ c) && decide (c ≤ r.2)) = true :=
  List.any_eq_true.2 ⟨r, List.mem_of_getElem? h, hc⟩
set_option maxHeartbeats 4000000 in
theorem takes_set (xb : Bool) (g sc kl kc : Nat) (ka : Option Addr) (rs : List (Nat × Nat)) (c : UInt8) (w : World) (hn : rs.length ≤ 70) (hg : g < w.heap.size)
    (hc : ∀ (j : Nat) r, rs[j]? = some r → w.cell? ⟨g, j * 2, none⟩ = some (.int .u8 (r.1 : Int)) ∧ w.cell? ⟨g, j * 2 + 1, none⟩ = some (.int .u8 (r.2 : Int))) :
    Calls Tryz.prog 62 #[.agg #[.int .u8 99, .bool xb, .slice (some ⟨g, 0, none⟩) rs.length sc, .slice ka kl kc], .int .u8 (c.toNat : Int)] w fun e w' => e = .returned (.bool (Rx.takesB xb rs c.toNat)) ∧ Below w.heap.size w w' := by
  have HC : Hid (∀ (j : Nat) r, rs[j]? = some r → (w.alloc (nC 99 xb (some ⟨g, 0, none⟩) rs.length sc ka kl kc)).cell? ⟨g, j * 2, none⟩ = some (.int .u8 (r.1 : Int)) ∧ (w.alloc (nC 99 xb (some ⟨g, 0, none⟩) rs.length sc ka kl kc)).cell? ⟨g, j * 2 + 1, none⟩ = some (.int .u8 (r.2 : Int))) := by
    intro j r hj;have hb := below_cells (w := w) (nC 99 xb (some ⟨g, 0, none⟩) rs.length sc ka kl kc);exact ⟨(hb.cell (p := ⟨g, j * 2, none⟩) hg).trans (hc j r hj).1, (hb.cell (p := ⟨g, j * 2 + 1, none⟩) hg).trans (hc j r hj).2⟩
  have TB : Hid (Rx.takesB xb rs c.toNat = ((rs.any fun r => decide (r.1 ≤ c.toNat) && decide (c.toNat ≤ r.2)) != xb)) := rfl;have D := At.new w #[.int .u8 99, .bool xb, .slice (some ⟨g, 0, none⟩) rs.length sc, .slice ka kl kc] 55;have HB := Lib.hid (below_cells (w := w) (nC 99 xb (some ⟨g, 0, none⟩) rs.length sc ka kl kc));clear hc hg;go_enter Tryz.func62, Tryz.ntmps62
  go_wp2_with fail
  generalize w.alloc (nC 99 xb (some ⟨g, 0, none⟩) rs.length sc ka kl kc) = W at *;have a0 := D.cell 0 _ rfl;have a1 := D.cell 1 _ rfl;have a2 := D.cell 2 _ rfl;have a3 := D.cell 3 _ rfl;go_loop [5] (fun i => ∃ k : Nat, k ≤ rs.length ∧ i = .int .i64 (k : Int) ∧ (rs.take k).any (fun r => decide (r.1 ≤ c.toNat) && decide (c.toNat ≤ r.2)) = false) (fun i => rs.length - (intOf i).toNat)
  case atStart => exact ⟨0, Nat.zero_le _, rfl, rfl⟩
  case round =>
    obtain ⟨k, hk, rfl, hP⟩ := hrel;by_cases hlt : k < rs.length
    · obtain ⟨r, hr⟩ : ∃ r, rs[k]? = some r := ⟨_, List.getElem?_eq_getElem hlt⟩;obtain ⟨c0, c1⟩ := HC.out k r hr;have hl1 : decide ((k : Int) < (rs.length : Int)) = true := decide_eq_true (by omega);have hl2 : decide (k < rs.length) = true := decide_eq_true hlt;have hsn := any_snoc rs c.toNat k r hr;rw [hP, Bool.false_or] at hsn;have AH := Lib.hid (any_here rs c.toNat k r hr);have SN := Lib.hid hsn;clear hsn hP hr;by_cases q1 : r.1 ≤ c.toNat
      · have d1 : decide ((r.1 : Int) ≤ (c.toNat : Int)) = true := decide_eq_true (by omega);have d2 : decide (r.1 ≤ c.toNat) = true := decide_eq_true q1;by_cases q2 : c.toNat ≤ r.2
        · have d3 : decide ((c.toNat : Int) ≤ (r.2 : Int)) = true := decide_eq_true (by omega);have d4 : decide (c.toNat ≤ r.2) = true := decide_eq_true q2;go_wp2
          go_ret
          exact ⟨by rw [TB.out, AH.out (by rw [d2, d4]; rfl)]; cases xb <;> rfl, HB.out⟩
        · have d3 : decide ((c.toNat : Int) ≤ (r.2 : Int)) = false := decide_eq_false (by omega);have d4 : decide (c.toNat ≤ r.2) = false := decide_eq_false q2;go_wp2
          go_round
          case rel => exact ⟨k + 1, by omega, by go_num, by rw [SN.out, d2, d4]; rfl⟩
          case measure => simp [intOf]; omega
      · have d1 : decide ((r.1 : Int) ≤ (c.toNat : Int)) = false := decide_eq_false (by omega);have d2 : decide (r.1 ≤ c.toNat) = false := decide_eq_false q1;go_wp2
        go_round
        case rel => exact ⟨k + 1, by omega, by go_num, by rw [SN.out, d2]; rfl⟩
        case measure => simp [intOf]; omega
    · have hl1 : decide ((k : Int) < (rs.length : Int)) = false := decide_eq_false (by omega);have hl2 : decide (k < rs.length) = false := decide_eq_false hlt;obtain rfl : k = rs.length := by omega
      rw [List.take_length] at hP;have HP := Lib.hid hP;clear hP;go_wp2
      go_ret
      exact ⟨by rw [TB.out, HP.out]; cases xb <;> rfl, HB.out⟩
end Go.Proofs.YthdoniefjmphaaaGreatDoor
namespace Go.Proofs.YthdoniefjmphaaaGreatDoor.Rx
structure More (P a : Pt) (l : List UInt8) (F X T : Nat → Prop) : Prop where
  s1 : ∀ j, j ≤ l.length → T j → St P l F j
  s2 : ∀ j, j ≤ l.length → St a l X j → St P l F j
  c1 : ∀ j, j ≤ l.length → St a l T j → T j ∨ St a l X j
  c0 : (P = .star a ∧ ∀ j, j ≤ l.length → F j → T j) ∨ (P = .plus a ∧ ∀ j, j ≤ l.length → St a l F j → T j ∨ St a l X j)
theorem More.star (a : Pt) (l : List UInt8) (F : Nat → Prop) : More (.star a) a l F F F where
  s1 j _ h := st_star_in h
  s2 j hj h := st_star_on (X := F) (fun i _ h => st_star_in h) hj h
  c1 j _ h := Or.inr h
  c0 := Or.inl ⟨rfl, fun _ _ h => h⟩
theorem More.plus (a : Pt) (l : List UInt8) (F : Nat → Prop) : More (.plus a) a l F F (fun _ => False) where
  s1 j _ h := h.elim
  s2 j _ h := st_plus_in h
  c1 j _ h := by obtain ⟨_, _, h, _⟩ := h; exact h.elim
  c0 := Or.inr ⟨rfl, fun _ _ h => Or.inr h⟩
theorem More.on {P a : Pt} {l : List UInt8} {F X T : Nat → Prop} (h : More P a l F X T) {j : Nat} (hj : j ≤ l.length) {Y : Nat → Prop} (hY : ∀ i, i ≤ l.length → Y i → St P l F i) (k : St a l Y j) : St P l F j := by
  rcases h.c0 with ⟨e, _⟩ | ⟨e, _⟩
  · rw [e] at hY ⊢; exact st_star_on hY hj k
  · rw [e] at hY ⊢; exact st_plus_on hY hj k
theorem More.turn {P a : Pt} {l : List UInt8} {F X T Y U : Nat → Prop} (h : More P a l F X T) (hY : ∀ j, j ≤ l.length → (Y j ↔ St a l X j)) (hU : ∀ j, j ≤ l.length → (U j ↔ T j ∨ Y j)) : More P a l F Y U where
  s1 j hj k := by
    rcases (hU j hj).1 k with k | k
    · exact h.s1 j hj k
    · exact h.s2 j hj ((hY j hj).1 k)
  s2 j hj k := h.on hj (fun i hi q => h.s2 i hi ((hY i hi).1 q)) k
  c1 j hj k := by
    obtain ⟨i, hi, q, r⟩ := k;rcases (hU i (by omega)).1 q with q | q
    · rcases h.c1 j hj ⟨i, hi, q, r⟩ with x | x
      · exact Or.inl ((hU j hj).2 (Or.inl x))
      · exact Or.inl ((hU j hj).2 (Or.inr ((hY j hj).2 x)))
    · exact Or.inr ⟨i, hi, q, r⟩
  c0 := by
    rcases h.c0 with ⟨e, k⟩ | ⟨e, k⟩
    · exact Or.inl ⟨e, fun j hj q => (hU j hj).2 (Or.inl (k j hj q))⟩
    · refine Or.inr ⟨e, fun j hj q => ?_⟩;rcases k j hj q with x | x
      · exact Or.inl ((hU j hj).2 (Or.inl x))
      · exact Or.inl ((hU j hj).2 (Or.inr ((hY j hj).2 x)))
theorem More.over {P a : Pt} {l : List UInt8} {F X T Y : Nat → Prop} (h : More P a l F X T) (hY : ∀ j, j ≤ l.length → (Y j ↔ St a l X j)) (hn : ∀ j, j ≤ l.length → Y j → T j) : ∀ j, j ≤ l.length → (T j ↔ St P l F j) := by
  have hc : ∀ j, j ≤ l.length → St a l T j → T j := by
    intro j hj k;rcases h.c1 j hj k with x | x
    · exact x
    · exact hn j hj ((hY j hj).2 x)
  intro j hj;refine ⟨h.s1 j hj, fun k => ?_⟩;rcases h.c0 with ⟨e, q⟩ | ⟨e, q⟩
  · rw [e] at k; exact st_star_least q hc j hj k
  · rw [e] at k;refine st_plus_least (fun i hi r => ?_) hc j hj k;rcases q i hi r with x | x
    · exact x
    · exact hn i hi ((hY i hi).2 x)
theorem st_congr {p : Pt} {l : List UInt8} {F G : Nat → Prop} {j : Nat} (hj : j ≤ l.length) (h : ∀ i, i ≤ l.length → (F i ↔ G i)) : St p l F j ↔ St p l G j :=
  ⟨st_mono hj fun i hi => (h i hi).1, st_mono hj fun i hi => (h i hi).2⟩
end Go.Proofs.YthdoniefjmphaaaGreatDoor.Rx
namespace Go.Proofs.YthdoniefjmphaaaGreatDoor
open Go Go.Proofs Go.RowKit Go.Shelf
structure Bls (w : World) (g n : Nat) (B : Nat → Bool) : Prop where
  lt : g < w.heap.size
  cell : ∀ j, j < n → w.cell? ⟨g, j, none⟩ = some (.bool (B j))
  free : ∀ j, j < n → w.frozen? ⟨g, j, none⟩ = false
theorem Bls.below {w w' : World} {g n : Nat} {B : Nat → Bool} (h : Bls w g n B) (hb : Below w.heap.size w w') : Bls w' g n B :=
  ⟨Nat.lt_of_lt_of_le h.lt hb.size, fun j hj => (hb.cell (p := ⟨g, j, none⟩) h.lt).trans (h.cell j hj), fun j hj => (hb.frozen (p := ⟨g, j, none⟩) h.lt).trans (h.free j hj)⟩
theorem Bls.of {w : World} {g n : Nat} {L : List Bool} (h : At w g (L.map Value.bool)) (hn : n ≤ L.length) : Bls w g n (fun j => L.getD j false) :=
  ⟨h.lt, fun j hj => h.cell j _ (by simp [List.getD, show j < L.length by omega]), fun j hj => h.free j (.bool (L.getD j false)) (by simp [List.getD, show j < L.length by omega])⟩
theorem Bls.far {w : World} {g n b j : Nat} {B : Nat → Bool} (h : Bls w g n B) (hb : b ≠ g) (u : Value) : Bls (w.setCell ⟨b, j, none⟩ u) g n B := by
  have e : (w.setCell ⟨b, j, none⟩ u).heap[g]? = w.heap[g]? := Below.heap_setCell _ _ _ _ hb.symm;exact ⟨by simpa using h.lt, fun i hi => (World.cell?_of_block (a := ⟨g, i, none⟩) e).trans (h.cell i hi), fun i hi => (World.frozen?_of_block (a := ⟨g, i, none⟩) e).trans (h.free i hi)⟩
theorem Bls.set {w : World} {g n : Nat} {B : Nat → Bool} (h : Bls w g n B) (j : Nat) (hj : j < n) (v : Bool) : Bls (w.setCell ⟨g, j, none⟩ (.bool v)) g n (fun i => if i = j then v else B i) := by
  refine ⟨by simpa using h.lt, fun i hi => ?_, fun i hi => by simpa using h.free i hi⟩;by_cases e : i = j
  · subst e;rw [World.cell?_setCell_same _ _ _ (h.cell i hi), if_pos rfl]
  · rw [World.cell?_setCell_other _ _ _ _ (by intro hh; have := congrArg Addr.off hh; simp at this; omega), if_neg e]; exact h.cell i hi
end Go.Proofs.YthdoniefjmphaaaGreatDoor
namespace Go.Proofs.YthdoniefjmphaaaGreatDoor
open Go Go.Proofs Go.RowKit Go.Shelf
set_option maxRecDepth 100000
attribute [local go_sem] cell_set
def WP (p : Rx.Pt) (l : List UInt8) (B : Nat → Bool) (w : World) (e : Ending) (w' : World) : Prop := ∃ (g' cap' : Nat) (B' : Nat → Bool), e = .returned (.slice (some ⟨g', 0, none⟩) (l.length + 1) cap') ∧ w.heap.size ≤ g' ∧ Bls w' g' (l.length + 1) B' ∧ (∀ j, j ≤ l.length → (B' j = true ↔ Rx.St p l (fun i => B i = true) j)) ∧ Below w.heap.size w w'
theorem bool_info : (Tryz.prog.info? 4).map (fun i => (i.zero, i.size, i.bytes)) = some (some (.bool false), 1, 1) := by kernel_rfl
theorem make_bools (n : Nat) (hn : n ≤ 100) (w : World) : (Instr.makeSlice 96 (.int .i64 ((n : Int) + 1)) (.int .i64 ((n : Int) + 1))).run Tryz.prog w = .ok (.slice (some ⟨w.heap.size, 0, none⟩) (n + 1) (n + 1)) (w.alloc (.cells (madeCells #[.bool false] (n + 1)) 4)) := by
  have h := run_make_row' (P := Tryz.prog) 96 4 (.bool false) 1 Tryz.underlying96 bool_info rfl .i64 .i64 (n + 1) (by omega) (by omega) w;simpa using h
theorem bls_made (w : World) (n : Nat) : Bls (w.alloc (.cells (madeCells #[.bool false] n) 4)) w.heap.size n (fun _ => false) := by
  have hb := World.alloc_heap_new w (.cells (madeCells #[.bool false] n) 4);refine ⟨by simp, fun j hj => ?_, fun j hj => ?_⟩
  · simp [madeCells, hj, Nat.mod_one]
  · simp
theorem Bls.drewN {w : World} {g n : Nat} {B : Nat → Bool} (h : Bls w g n B) (q : Nat) : Bls (w.drewN q) g n B := ⟨h.lt, h.cell, h.free⟩
theorem leaf_hit {m k : Nat} {l : List UInt8} {G : Nat → Prop} {T : Nat → Bool} (hT : ∀ j, j ≤ l.length → (T j = true ↔ j ≤ k ∧ Rx.St (.leaf m) l G j)) (hs : Rx.St (.leaf m) l G (k + 1)) : ∀ j, j ≤ l.length → ((if j = k + 1 then true else T j) = true ↔ j ≤ k + 1 ∧ Rx.St (.leaf m) l G j) := by
  intro j hj;by_cases e : j = k + 1
  · subst e; rw [if_pos rfl]; exact ⟨fun _ => ⟨Nat.le_refl _, hs⟩, fun _ => rfl⟩
  · rw [if_neg e, hT j hj]; exact ⟨fun h => ⟨by omega, h.2⟩, fun h => ⟨by omega, h.2⟩⟩
theorem leaf_miss {m k : Nat} {l : List UInt8} {G : Nat → Prop} {T : Nat → Bool} (hT : ∀ j, j ≤ l.length → (T j = true ↔ j ≤ k ∧ Rx.St (.leaf m) l G j)) (hs : ¬ Rx.St (.leaf m) l G (k + 1)) : ∀ j, j ≤ l.length → (T j = true ↔ j ≤ k + 1 ∧ Rx.St (.leaf m) l G j) := by
  intro j hj;rw [hT j hj];refine ⟨fun h => ⟨by omega, h.2⟩, fun h => ⟨?_, h.2⟩⟩;rcases Nat.lt_or_ge k j with g | g
  · have : j = k + 1 := by omega
    subst this; exact (hs h.2).elim
  · exact g
theorem leaf_none {m : Nat} {l : List UInt8} {G : Nat → Prop} : ¬ Rx.St (.leaf m) l G 0 := by
  intro h;obtain ⟨i, e, _⟩ := (Rx.st_leaf (Nat.zero_le _)).1 h;omega
theorem leaf_st {m k : Nat} {l : List UInt8} {G : Nat → Prop} {c : UInt8} (hk : l[k]? = some c) : Rx.St (.leaf m) l G (k + 1) ↔ G k ∧ m.testBit c.toNat = true := by
  have hl := (List.getElem?_eq_some_iff.1 hk).1;rw [Rx.st_leaf (by omega)];constructor
  · rintro ⟨i, e, h, d, hd, hm⟩;obtain rfl : k = i := by omega
    rw [hk] at hd; cases hd;exact ⟨h, hm⟩
  · rintro ⟨h, hm⟩; exact ⟨k, rfl, h, c, hk, hm⟩
set_option maxHeartbeats 8000000 in
theorem walk_c (xb : Bool) (sa ka : Option Addr) (sl sc kl kc : Nat) (s : ByteArray) (l : List UInt8) (hud : s.data.toList = l) (hl : l.length ≤ 66) (g cap : Nat) (B : Nat → Bool) (w : World) (R : Bls w g (l.length + 1) B) (m : Nat) (HT : Hid (∀ (c : UInt8) (u : World), Below w.heap.size w u → Calls Tryz.prog 62 #[.agg #[.int .u8 99, .bool xb, .slice sa sl sc, .slice ka kl kc], .int .u8 (c.toNat : Int)] u fun e w' => e = .returned (.bool (m.testBit c.toNat)) ∧ Below u.heap.size u w')) : Calls Tryz.prog 49 #[.agg #[.int .u8 99, .bool xb, .slice sa sl sc, .slice ka kl kc], .string s, .slice (some ⟨g, 0, none⟩) (l.length + 1) cap] w (WP (.leaf m) l B w) := by
  have hsz : s.size = l.length := by rw [Lib.size_eq, hud]
  have HU := Lib.hid hud;have HM := make_bools l.length (by omega);have hg := R.lt;clear hud;go_enter Tryz.func49, Tryz.ntmps49
  go_wp2_with fail
  have D : At ((w.alloc (nC 99 xb sa sl sc ka kl kc)).alloc (.cells (madeCells #[.bool false] (l.length + 1)) 4)) w.heap.size [.int .u8 99, .bool xb, .slice sa sl sc, .slice ka kl kc] := (At.new w #[.int .u8 99, .bool xb, .slice sa sl sc, .slice ka kl kc] 55).alloc (.cells (madeCells #[.bool false] (l.length + 1)) 4);have T0 : Bls ((w.alloc (nC 99 xb sa sl sc ka kl kc)).alloc (.cells (madeCells #[.bool false] (l.length + 1)) 4)) (w.heap.size + 1) (l.length + 1) (fun _ => false) := by have h := bls_made (w.alloc (nC 99 xb sa sl sc ka kl kc)) (l.length + 1); simpa using h
  have hb : Below w.heap.size w ((w.alloc (nC 99 xb sa sl sc ka kl kc)).alloc (.cells (madeCells #[.bool false] (l.length + 1)) 4)) := by go_grown
  generalize (w.alloc (nC 99 xb sa sl sc ka kl kc)).alloc (.cells (madeCells #[.bool false] (l.length + 1)) 4) = v0 at *;have HR := Lib.hid R;clear HM;clear R;go_loopw [8] (fun i wr => ∃ (k : Nat) (T : Nat → Bool), k ≤ l.length ∧ i = .int .i64 (k : Int) ∧ Below w.heap.size w wr ∧ At wr w.heap.size [.int .u8 99, .bool xb, .slice sa sl sc, .slice ka kl kc] ∧ Bls wr (w.heap.size + 1) (l.length + 1) T ∧ ∀ j, j ≤ l.length → (T j = true ↔ j ≤ k ∧ Rx.St (.leaf m) l (fun i => B i = true) j)) (fun i _ => l.length - (intOf i).toNat)
  case atStart => exact ⟨0, _, Nat.zero_le _, rfl, hb, D, T0, fun j hj => ⟨fun h => (by cases h), fun h => by obtain rfl : j = 0 := (by omega); exact (leaf_none h.2).elim⟩⟩
  case round =>
    clear D T0 hb;obtain ⟨k, T, hk, rfl, hb, D, TT, hT⟩ := hrel;by_cases hlt : k < l.length
    · have R := HR.out;have hks : k < s.size := by omega
      obtain ⟨c, hc⟩ : ∃ c : UInt8, s[k]'hks = c := ⟨_, rfl⟩;have hcl : l[k]? = some c := by rw [← HU.out, ← hc]; exact Lib.data_getElem? s k hks
      have LS := Lib.hid (leaf_st (m := m) (G := fun i => B i = true) hcl);have HT2 := Lib.hid hT;have h0 : (0 : Int) ≤ (k : Int) := by omega
      have h1 : (k : Int) < (l.length : Int) := by omega
      have h2 : (k : Int) < (l.length : Int) + 1 := by omega
      have h3 : k < l.length + 1 := by omega
      have h4 : (k : Int) < (s.size : Int) := by omega
      have aF := (R.below hb).cell k h3;have HB := Lib.hid hb;have HTT := Lib.hid TT;have HD := Lib.hid D;have aD0 := D.cell 0 _ rfl;have aD1 := D.cell 1 _ rfl;have aD2 := D.cell 2 _ rfl;have aD3 := D.cell 3 _ rfl;clear hT hcl hb R TT;cases hBk : B k with
      | false =>
        rw [hBk] at aF;have BK := Lib.hid hBk;clear hBk;go_wp2_with fail
        go_quiet (fail)
        go_wp2
        go_roundw
        case rel => exact ⟨k + 1, T, by omega, by go_num, rxbelow_dN HB.out _, HD.out.drewN _, HTT.out.drewN _, leaf_miss HT2.out (fun h => by have := (LS.out.1 h).1; rw [BK.out] at this; cases this)⟩
        case measure => simp [intOf]; omega
      | true =>
        rw [hBk] at aF;have BK := Lib.hid hBk;clear hBk;cases htb : m.testBit c.toNat with
        | false =>
          have TB := Lib.hid htb;clear htb;have HK : Hid (∀ u : World, Below wr.heap.size wr u → Calls Tryz.prog 62 #[.agg #[.int .u8 99, .bool xb, .slice sa sl sc, .slice ka kl kc], .int .u8 (c.toNat : Int)] u fun e w' => e = .returned (.bool false) ∧ Below u.heap.size u w') := by
            have h := HT.out c;rw [TB.out] at h;exact fun u hu => h u (below_then HB.out hu)
          go_wp2_with fail
          go_region_held3 (fun u => u.cell? ⟨w.heap.size, 0, none⟩ = some (.int .u8 99) ∧ u.cell? ⟨w.heap.size, 1, none⟩ = some (.bool xb) ∧ u.cell? ⟨w.heap.size, 2, none⟩ = some (.slice sa sl sc) ∧ u.cell? ⟨w.heap.size, 3, none⟩ = some (.slice ka kl kc) ∧ u.cell? ⟨g, k, none⟩ = some (.bool true) ∧ Below wr.heap.size wr u)
            (first
              | ((repeat' apply And.intro) <;> first | go_cell | exact (Below.refl _ _).drew)
              | (go_split_ands
                 (repeat' apply And.intro) <;> first | (refine cell_later hb1 ?_; with_reducible assumption) | (refine below_then ?_ hb1; with_reducible assumption)))
            (first | (go_at_call 62; (refine (HK.out _ (by first | with_reducible assumption | exact (Below.refl _ _).drew)).mono ?_); rintro e w1 ⟨rfl, hb1⟩))
          have hb2 : Below wr.heap.size wr w1 := below_then (Below.refl _ _).drew hb1;have HB := Lib.hid (below_then HB.out hb2);have HD := Lib.hid (HD.out.below hb2);have HTT := Lib.hid (HTT.out.below hb2);clear hb1 hb2 HK aD0 aD1 aD2 aD3 aF;go_wp2
          go_roundw
          case rel => exact ⟨k + 1, T, by omega, by go_num, HB.out, HD.out, HTT.out, leaf_miss HT2.out (fun h => by have := (LS.out.1 h).2; rw [TB.out] at this; cases this)⟩
          case measure => simp [intOf]; omega
        | true =>
          have TB := Lib.hid htb;clear htb;have HK : Hid (∀ u : World, Below wr.heap.size wr u → Calls Tryz.prog 62 #[.agg #[.int .u8 99, .bool xb, .slice sa sl sc, .slice ka kl kc], .int .u8 (c.toNat : Int)] u fun e w' => e = .returned (.bool true) ∧ Below u.heap.size u w') := by
            have h := HT.out c;rw [TB.out] at h;exact fun u hu => h u (below_then HB.out hu)
          go_wp2_with fail
          go_region_held3 (fun u => u.cell? ⟨w.heap.size, 0, none⟩ = some (.int .u8 99) ∧ u.cell? ⟨w.heap.size, 1, none⟩ = some (.bool xb) ∧ u.cell? ⟨w.heap.size, 2, none⟩ = some (.slice sa sl sc) ∧ u.cell? ⟨w.heap.size, 3, none⟩ = some (.slice ka kl kc) ∧ u.cell? ⟨g, k, none⟩ = some (.bool true) ∧ Below wr.heap.size wr u)
            (first
              | ((repeat' apply And.intro) <;> first | go_cell | exact (Below.refl _ _).drew)
              | (go_split_ands
                 (repeat' apply And.intro) <;> first | (refine cell_later hb1 ?_; with_reducible assumption) | (refine below_then ?_ hb1; with_reducible assumption)))
            (first | (go_at_call 62; (refine (HK.out _ (by first | with_reducible assumption | exact (Below.refl _ _).drew)).mono ?_); rintro e w1 ⟨rfl, hb1⟩))
          have hb2 : Below wr.heap.size wr w1 := below_then (Below.refl _ _).drew hb1;have HB := Lib.hid (below_then HB.out hb2);have HD := Lib.hid (HD.out.below hb2);have HTT := Lib.hid (HTT.out.below hb2);clear hb1 hb2 HK aD0 aD1 aD2 aD3 aF;have zT := HTT.out.free (k + 1) (by omega);have aT := HTT.out.cell (k + 1) (by omega);have nT := HTT.out.lt;have k1 : (0 : Int) ≤ (k : Int) + 1 := by omega
          have k2 : (k : Int) + 1 < (l.length : Int) + 1 := by omega
          have k3 : k + 1 < l.length + 1 := by omega
          go_wp2
          go_roundw
          case rel => exact ⟨k + 1, _, by omega, by go_num, HB.out.setCell (by dsimp only; omega) _, HD.out.far (by omega) _, HTT.out.set (k + 1) (by omega) true, leaf_hit HT2.out (LS.out.2 ⟨BK.out, TB.out⟩)⟩
          case measure => simp [intOf]; omega
    · have h1 : ¬ (k : Int) < (l.length : Int) := by omega
      have HT2 := Lib.hid hT;have HTT := Lib.hid TT;have HB := Lib.hid hb;obtain rfl : k = l.length := by omega
      clear hT TT hb;go_wp2
      go_ret
      exact ⟨w.heap.size + 1, l.length + 1, T, rfl, by omega, HTT.out, fun j hj => by rw [HT2.out j hj]; exact ⟨fun h => h.2, fun h => ⟨hj, h⟩⟩, HB.out⟩
set_option maxHeartbeats 8000000 in
theorem walk_d (xb : Bool) (sa ka : Option Addr) (sl sc kl kc : Nat) (s : ByteArray) (l : List UInt8) (hud : s.data.toList = l) (hl : l.length ≤ 66) (g cap : Nat) (B : Nat → Bool) (w : World) (R : Bls w g (l.length + 1) B) (m : Nat) (HT : Hid (∀ (c : UInt8) (u : World), Below w.heap.size w u → Calls Tryz.prog 62 #[.agg #[.int .u8 46, .bool xb, .slice sa sl sc, .slice ka kl kc], .int .u8 (c.toNat : Int)] u fun e w' => e = .returned (.bool (m.testBit c.toNat)) ∧ Below u.heap.size u w')) : Calls Tryz.prog 49 #[.agg #[.int .u8 46, .bool xb, .slice sa sl sc, .slice ka kl kc], .string s, .slice (some ⟨g, 0, none⟩) (l.length + 1) cap] w (WP (.leaf m) l B w) := by
  have hsz : s.size = l.length := by rw [Lib.size_eq, hud]
  have HU := Lib.hid hud;have HM := make_bools l.length (by omega);have hg := R.lt;clear hud;go_enter Tryz.func49, Tryz.ntmps49
  go_wp2_with fail
  have D : At ((w.alloc (nC 46 xb sa sl sc ka kl kc)).alloc (.cells (madeCells #[.bool false] (l.length + 1)) 4)) w.heap.size [.int .u8 46, .bool xb, .slice sa sl sc, .slice ka kl kc] := (At.new w #[.int .u8 46, .bool xb, .slice sa sl sc, .slice ka kl kc] 55).alloc (.cells (madeCells #[.bool false] (l.length + 1)) 4);have T0 : Bls ((w.alloc (nC 46 xb sa sl sc ka kl kc)).alloc (.cells (madeCells #[.bool false] (l.length + 1)) 4)) (w.heap.size + 1) (l.length + 1) (fun _ => false) := by have h := bls_made (w.alloc (nC 46 xb sa sl sc ka kl kc)) (l.length + 1); simpa using h
  have hb : Below w.heap.size w ((w.alloc (nC 46 xb sa sl sc ka kl kc)).alloc (.cells (madeCells #[.bool false] (l.length + 1)) 4)) := by go_grown
  generalize (w.alloc (nC 46 xb sa sl sc ka kl kc)).alloc (.cells (madeCells #[.bool false] (l.length + 1)) 4) = v0 at *;have HR := Lib.hid R;clear HM;clear R;go_loopw [8] (fun i wr => ∃ (k : Nat) (T : Nat → Bool), k ≤ l.length ∧ i = .int .i64 (k : Int) ∧ Below w.heap.size w wr ∧ At wr w.heap.size [.int .u8 46, .bool xb, .slice sa sl sc, .slice ka kl kc] ∧ Bls wr (w.heap.size + 1) (l.length + 1) T ∧ ∀ j, j ≤ l.length → (T j = true ↔ j ≤ k ∧ Rx.St (.leaf m) l (fun i => B i = true) j)) (fun i _ => l.length - (intOf i).toNat)
  case atStart => exact ⟨0, _, Nat.zero_le _, rfl, hb, D, T0, fun j hj => ⟨fun h => (by cases h), fun h => by obtain rfl : j = 0 := (by omega); exact (leaf_none h.2).elim⟩⟩
  case round =>
    clear D T0 hb;obtain ⟨k, T, hk, rfl, hb, D, TT, hT⟩ := hrel;by_cases hlt : k < l.length
    · have R := HR.out;have hks : k < s.size := by omega
      obtain ⟨c, hc⟩ : ∃ c : UInt8, s[k]'hks = c := ⟨_, rfl⟩;have hcl : l[k]? = some c := by rw [← HU.out, ← hc]; exact Lib.data_getElem? s k hks
      have LS := Lib.hid (leaf_st (m := m) (G := fun i => B i = true) hcl);have HT2 := Lib.hid hT;have h0 : (0 : Int) ≤ (k : Int) := by omega
      have h1 : (k : Int) < (l.length : Int) := by omega
      have h2 : (k : Int) < (l.length : Int) + 1 := by omega
      have h3 : k < l.length + 1 := by omega
      have h4 : (k : Int) < (s.size : Int) := by omega
      have aF := (R.below hb).cell k h3;have HB := Lib.hid hb;have HTT := Lib.hid TT;have HD := Lib.hid D;have aD0 := D.cell 0 _ rfl;have aD1 := D.cell 1 _ rfl;have aD2 := D.cell 2 _ rfl;have aD3 := D.cell 3 _ rfl;clear hT hcl hb R TT;cases hBk : B k with
      | false =>
        rw [hBk] at aF;have BK := Lib.hid hBk;clear hBk;go_wp2_with fail
        go_quiet (fail)
        go_wp2
        go_roundw
        case rel => exact ⟨k + 1, T, by omega, by go_num, rxbelow_dN HB.out _, HD.out.drewN _, HTT.out.drewN _, leaf_miss HT2.out (fun h => by have := (LS.out.1 h).1; rw [BK.out] at this; cases this)⟩
        case measure => simp [intOf]; omega
      | true =>
        rw [hBk] at aF;have BK := Lib.hid hBk;clear hBk;cases htb : m.testBit c.toNat with
        | false =>
          have TB := Lib.hid htb;clear htb;have HK : Hid (∀ u : World, Below wr.heap.size wr u → Calls Tryz.prog 62 #[.agg #[.int .u8 46, .bool xb, .slice sa sl sc, .slice ka kl kc], .int .u8 (c.toNat : Int)] u fun e w' => e = .returned (.bool false) ∧ Below u.heap.size u w') := by
            have h := HT.out c;rw [TB.out] at h;exact fun u hu => h u (below_then HB.out hu)
          go_wp2_with fail
          go_region_held3 (fun u => u.cell? ⟨w.heap.size, 0, none⟩ = some (.int .u8 46) ∧ u.cell? ⟨w.heap.size, 1, none⟩ = some (.bool xb) ∧ u.cell? ⟨w.heap.size, 2, none⟩ = some (.slice sa sl sc) ∧ u.cell? ⟨w.heap.size, 3, none⟩ = some (.slice ka kl kc) ∧ u.cell? ⟨g, k, none⟩ = some (.bool true) ∧ Below wr.heap.size wr u)
            (first
              | ((repeat' apply And.intro) <;> first | go_cell | exact (Below.refl _ _).drew)
              | (go_split_ands
                 (repeat' apply And.intro) <;> first | (refine cell_later hb1 ?_; with_reducible assumption) | (refine below_then ?_ hb1; with_reducible assumption)))
            (first | (go_at_call 62; (refine (HK.out _ (by first | with_reducible assumption | exact (Below.refl _ _).drew)).mono ?_); rintro e w1 ⟨rfl, hb1⟩))
          have hb2 : Below wr.heap.size wr w1 := below_then (Below.refl _ _).drew hb1;have HB := Lib.hid (below_then HB.out hb2);have HD := Lib.hid (HD.out.below hb2);have HTT := Lib.hid (HTT.out.below hb2);clear hb1 hb2 HK aD0 aD1 aD2 aD3 aF;go_wp2
          go_roundw
          case rel => exact ⟨k + 1, T, by omega, by go_num, HB.out, HD.out, HTT.out, leaf_miss HT2.out (fun h => by have := (LS.out.1 h).2; rw [TB.out] at this; cases this)⟩
          case measure => simp [intOf]; omega
        | true =>
          have TB := Lib.hid htb;clear htb;have HK : Hid (∀ u : World, Below wr.heap.size wr u → Calls Tryz.prog 62 #[.agg #[.int .u8 46, .bool xb, .slice sa sl sc, .slice ka kl kc], .int .u8 (c.toNat : Int)] u fun e w' => e = .returned (.bool true) ∧ Below u.heap.size u w') := by
            have h := HT.out c;rw [TB.out] at h;exact fun u hu => h u (below_then HB.out hu)
          go_wp2_with fail
          go_region_held3 (fun u => u.cell? ⟨w.heap.size, 0, none⟩ = some (.int .u8 46) ∧ u.cell? ⟨w.heap.size, 1, none⟩ = some (.bool xb) ∧ u.cell? ⟨w.heap.size, 2, none⟩ = some (.slice sa sl sc) ∧ u.cell? ⟨w.heap.size, 3, none⟩ = some (.slice ka kl kc) ∧ u.cell? ⟨g, k, none⟩ = some (.bool true) ∧ Below wr.heap.size wr u)
            (first
              | ((repeat' apply And.intro) <;> first | go_cell | exact (Below.refl _ _).drew)
              | (go_split_ands
                 (repeat' apply And.intro) <;> first | (refine cell_later hb1 ?_; with_reducible assumption) | (refine below_then ?_ hb1; with_reducible assumption)))
            (first | (go_at_call 62; (refine (HK.out _ (by first | with_reducible assumption | exact (Below.refl _ _).drew)).mono ?_); rintro e w1 ⟨rfl, hb1⟩))
          have hb2 : Below wr.heap.size wr w1 := below_then (Below.refl _ _).drew hb1;have HB := Lib.hid (below_then HB.out hb2);have HD := Lib.hid (HD.out.below hb2);have HTT := Lib.hid (HTT.out.below hb2);clear hb1 hb2 HK aD0 aD1 aD2 aD3 aF;have zT := HTT.out.free (k + 1) (by omega);have aT := HTT.out.cell (k + 1) (by omega);have nT := HTT.out.lt;have k1 : (0 : Int) ≤ (k : Int) + 1 := by omega
          have k2 : (k : Int) + 1 < (l.length : Int) + 1 := by omega
          have k3 : k + 1 < l.length + 1 := by omega
          go_wp2
          go_roundw
          case rel => exact ⟨k + 1, _, by omega, by go_num, HB.out.setCell (by dsimp only; omega) _, HD.out.far (by omega) _, HTT.out.set (k + 1) (by omega) true, leaf_hit HT2.out (LS.out.2 ⟨BK.out, TB.out⟩)⟩
          case measure => simp [intOf]; omega
    · have h1 : ¬ (k : Int) < (l.length : Int) := by omega
      have HT2 := Lib.hid hT;have HTT := Lib.hid TT;have HB := Lib.hid hb;obtain rfl : k = l.length := by omega
      clear hT TT hb;go_wp2
      go_ret
      exact ⟨w.heap.size + 1, l.length + 1, T, rfl, by omega, HTT.out, fun j hj => by rw [HT2.out j hj]; exact ⟨fun h => h.2, fun h => ⟨hj, h⟩⟩, HB.out⟩
end Go.Proofs.YthdoniefjmphaaaGreatDoor
namespace Go.Proofs.YthdoniefjmphaaaGreatDoor
open Go Go.Proofs Go.RowKit Go.Shelf
set_option maxRecDepth 100000
attribute [local go_sem] cell_set
def WalkOK (d : Nat) : Prop := ∀ (x : Nd) (p : Rx.Pt) (S : Nat → Prop) (w : World), NodeIs S w d x p → (∀ g, S g → g < w.heap.size) → ∀ (s : ByteArray) (l : List UInt8), s.data.toList = l → l.length ≤ 66 → ∀ (g cap : Nat) (B : Nat → Bool), Bls w g (l.length + 1) B → Calls Tryz.prog 49 #[ndV x, .string s, .slice (some ⟨g, 0, none⟩) (l.length + 1) cap] w (WP p l B w)
def KidsAt (S : Nat → Prop) (w : World) (d gk : Nat) (ps : List Rx.Pt) : Prop := S gk ∧ ∀ j q, ps[j]? = some q → ∃ y, NodeIs S w d y q ∧ ∀ i v, (ndC y)[i]? = some v → w.cell? ⟨gk, j * 4 + i, none⟩ = some v
theorem kid_at {S : Nat → Prop} {w wr : World} {d gk : Nat} {ps : List Rx.Pt} (h : KidsAt S w d gk ps) (hS : ∀ g, S g → g < w.heap.size) (hb : Below w.heap.size w wr) {k : Nat} (hk : k < ps.length) : ∃ q y, ps[k]? = some q ∧ NodeIs S wr d y q ∧ wr.cell? ⟨gk, k * 4, none⟩ = some (.int .u8 y.o) ∧ wr.cell? ⟨gk, k * 4 + 1, none⟩ = some (.bool y.n) ∧ wr.cell? ⟨gk, k * 4 + 2, none⟩ = some (.slice y.sa y.sl y.sc) ∧ wr.cell? ⟨gk, k * 4 + 3, none⟩ = some (.slice y.ka y.kl y.kc) := by
 obtain ⟨hg, h⟩ := h;obtain ⟨y, hy, hc⟩ := h k _ (List.getElem?_eq_getElem hk);have c : ∀ i v, (ndC y)[i]? = some v → wr.cell? ⟨gk, k * 4 + i, none⟩ = some v := fun i v hv => (hb.cell (p := ⟨gk, k * 4 + i, none⟩) (hS gk hg)).trans (hc i v hv)
 exact ⟨_, y, List.getElem?_eq_getElem hk, hy.keep (fun _ h => h) (fun g hg => hb.block g (hS g hg)), c 0 _ rfl, c 1 _ rfl, c 2 _ rfl, c 3 _ rfl⟩
theorem take_alt (ps : List Rx.Pt) {k : Nat} {q : Rx.Pt} (h : ps[k]? = some q) (z : Rx.Pt) (f : Rx.Pt → Rx.Pt → Rx.Pt) : (ps.take (k + 1)).foldl f z = f ((ps.take k).foldl f z) q := by
 obtain ⟨hk, e⟩ := List.getElem?_eq_some_iff.1 h;rw [List.take_succ_eq_append_getElem hk, e, List.foldl_append]; rfl
theorem or_turn {n m : Nat} {T U X : Nat → Bool} {v : Bool} (h : ∀ j, j ≤ n → U j = if j < m then (T j || X j) else T j) (hv : v = (T m || X m)) : ∀ j, j ≤ n → (if j = m then v else U j) = if j < m + 1 then (T j || X j) else T j := by
 intro j hj;by_cases e : j = m
 ·
  subst e; rw [if_pos rfl, if_pos (by omega), hv]
 ·
  rw [if_neg e, h j hj];by_cases e2 : j < m
  ·
   rw [if_pos e2, if_pos (by omega)]
  ·
   rw [if_neg e2, if_neg (by omega)]
set_option maxHeartbeats 8000000 in
theorem walk_a (xb : Bool) (sa ka : Option Addr) (sl sc kl kc : Nat) (s : ByteArray) (l : List UInt8) (hud : s.data.toList = l) (hl : l.length ≤ 66) (g cap : Nat) (B : Nat → Bool) (w : World) (R : Bls w g (l.length + 1) B) (d gk : Nat) (ps : List Rx.Pt) (S : Nat → Prop) (IH : WalkOK d) (hka : ka = some ⟨gk, 0, none⟩) (hkl : kl = ps.length) (hps : ps.length ≤ 64) (HK : KidsAt S w d gk ps) (hS : ∀ g, S g → g < w.heap.size) : Calls Tryz.prog 49 #[.agg #[.int .u8 124, .bool xb, .slice sa sl sc, .slice ka kl kc], .string s, .slice (some ⟨g, 0, none⟩) (l.length + 1) cap] w (WP (ps.foldl .alt .nil) l B w) := by
 have hsz : s.size = l.length := by rw [Lib.size_eq, hud]
 have HU := Lib.hid hud;have HM := make_bools l.length (by omega);have hg := R.lt;have HIH := Lib.hid IH;have HKK := Lib.hid HK;have HSS := Lib.hid hS;subst hka hkl;clear IH HK hS;clear hud;go_enter Tryz.func49, Tryz.ntmps49
 go_wp2_with fail
 have D : At ((w.alloc (nC 124 xb sa sl sc (some ⟨gk, 0, none⟩) ps.length kc)).alloc (.cells (madeCells #[.bool false] (l.length + 1)) 4)) w.heap.size [.int .u8 124, .bool xb, .slice sa sl sc, .slice (some ⟨gk, 0, none⟩) ps.length kc] := (At.new w #[.int .u8 124, .bool xb, .slice sa sl sc, .slice (some ⟨gk, 0, none⟩) ps.length kc] 55).alloc (.cells (madeCells #[.bool false] (l.length + 1)) 4);have T0 : Bls ((w.alloc (nC 124 xb sa sl sc (some ⟨gk, 0, none⟩) ps.length kc)).alloc (.cells (madeCells #[.bool false] (l.length + 1)) 4)) (w.heap.size + 1) (l.length + 1) (fun _ => false) := by have h := bls_made (w.alloc (nC 124 xb sa sl sc (some ⟨gk, 0, none⟩) ps.length kc)) (l.length + 1); simpa using h
 have hb : Below w.heap.size w ((w.alloc (nC 124 xb sa sl sc (some ⟨gk, 0, none⟩) ps.length kc)).alloc (.cells (madeCells #[.bool false] (l.length + 1)) 4)) := by go_grown
 generalize (w.alloc (nC 124 xb sa sl sc (some ⟨gk, 0, none⟩) ps.length kc)).alloc (.cells (madeCells #[.bool false] (l.length + 1)) 4) = v0 at *;have HR := Lib.hid R;clear HM;clear R;have HFR := Lib.hid (fun a0 : Unit => hg);go_loopw [9] (fun i wr => ∃ (k : Nat) (T : Nat → Bool), k ≤ ps.length ∧ i = .int .i64 (k : Int) ∧ Below w.heap.size w wr ∧ At wr w.heap.size [.int .u8 124, .bool xb, .slice sa sl sc, .slice (some ⟨gk, 0, none⟩) ps.length kc] ∧ Bls wr (w.heap.size + 1) (l.length + 1) T ∧ ∀ j, j ≤ l.length → (T j = true ↔ Rx.St ((ps.take k).foldl .alt .nil) l (fun i => B i = true) j)) (fun i _ => ps.length - (intOf i).toNat)
 case atStart => exact ⟨0, _, Nat.zero_le _, rfl, hb, D, T0, fun j hj => ⟨fun h => (by cases h), fun h => (Rx.st_nil h).elim⟩⟩
 case round =>
  clear D T0 hb;obtain ⟨k, T, hk, rfl, hb, D, TT, hT⟩ := hrel;have HB := Lib.hid hb;have HTT := Lib.hid TT;have HD := Lib.hid D;have HT := Lib.hid hT;have aD0 := D.cell 0 _ rfl;have aD1 := D.cell 1 _ rfl;have aD2 := D.cell 2 _ rfl;have aD3 := D.cell 3 _ rfl;clear hT hb TT;by_cases hlt : k < ps.length
  ·
   have h0 : (0 : Int) ≤ (k : Int) := by omega
   have h1 : (k : Int) < (ps.length : Int) := by omega
   obtain ⟨q, y, hq, hy, c0, c1, c2, c3⟩ := kid_at HKK.out HSS.out HB.out hlt;have HY := Lib.hid hy;have HQ := Lib.hid hq;clear hy hq;go_wp2_with fail
   refine (HIH.out y q S wr HY.out (fun g hg => Nat.lt_of_lt_of_le (HSS.out g hg) HB.out.size) s l HU.out hl g cap B (HR.out.below HB.out)).mono ?_;rintro e w1 ⟨g1, cap1, X, rfl, hg1, RX, hX, hb1⟩;have hgt := HTT.out.lt;have HB := Lib.hid (below_then HB.out hb1);have D := HD.out.below hb1;have TT := HTT.out.below hb1;have HX := Lib.hid hX;clear aD0 aD1 aD2 aD3 c0 c1 c2 c3 hX HY HD HTT hb1;go_wp2_with fail
   go_loopw [11] (fun i wq => ∃ (m : Nat) (U : Nat → Bool), m ≤ l.length + 1 ∧ i = .int .i64 (m : Int) ∧ Below w.heap.size w wq ∧ At wq w.heap.size [.int .u8 124, .bool xb, .slice sa sl sc, .slice (some ⟨gk, 0, none⟩) ps.length kc] ∧ Bls wq (w.heap.size + 1) (l.length + 1) U ∧ Bls wq g1 (l.length + 1) X ∧ ∀ j, j ≤ l.length → U j = if j < m then (T j || X j) else T j) (fun i _ => l.length + 1 - (intOf i).toNat)
   case atStart => exact ⟨0, _, Nat.zero_le _, rfl, HB.out, D, TT, RX, fun j _ => by rw [if_neg (by omega)]⟩
   case round =>
    clear D TT RX HB;obtain ⟨m, U, hm, rfl, hb, D, UU, RX, hU⟩ := hrel;by_cases hmt : m < l.length + 1
    ·
     have j0 : (0 : Int) ≤ (m : Int) := by omega
     have j1 : (m : Int) < (l.length : Int) + 1 := by omega
     have aU := UU.cell m hmt;have zU := UU.free m hmt;have nU := UU.lt;have aX := RX.cell m hmt;have hum : U m = T m := by rw [hU m (by omega), if_neg (by omega)]
     have HB := Lib.hid hb;have HUU := Lib.hid UU;have HD := Lib.hid D;have HRX := Lib.hid RX;have HU2 := Lib.hid hU;clear hb UU RX hU D;cases hTm : T m with
     | true =>
      rw [hum, hTm] at aU;have TM := Lib.hid hTm;clear hum hTm;go_wp2
      go_roundw
      case rel => exact ⟨m + 1, _, by omega, by go_num, HB.out.setCell (by dsimp only; omega) _, HD.out.far (by omega) _, HUU.out.set m hmt true, HRX.out.far (by omega) _, or_turn HU2.out (by rw [TM.out]; rfl)⟩
      case measure => simp [intOf]; omega
     | false =>
      rw [hum, hTm] at aU;have TM := Lib.hid hTm;clear hum hTm;go_wp2
      go_roundw
      case rel => exact ⟨m + 1, _, by omega, by go_num, HB.out.setCell (by dsimp only; omega) _, HD.out.far (by omega) _, HUU.out.set m hmt (X m), HRX.out.far (by omega) _, or_turn HU2.out (by rw [TM.out]; rfl)⟩
      case measure => simp [intOf]; omega
    ·
     have j1 : ¬ (m : Int) < (l.length : Int) + 1 := by omega
     have j2 : ¬ m < l.length + 1 := hmt;obtain rfl : m = l.length + 1 := by omega
     have HB := Lib.hid hb;have HUU := Lib.hid UU;have HD := Lib.hid D;have HU2 := Lib.hid hU;clear hb UU hU RX;go_wp2
     go_roundw
     case rel => exact ⟨k + 1, U, by omega, by go_num, HB.out, HD.out, HUU.out, fun j hj => by rw [HU2.out j hj, if_pos (by omega), take_alt ps HQ.out, Rx.st_alt, ← HT.out j hj, ← HX.out j hj, Bool.or_eq_true]⟩
     case measure => simp [intOf]; omega
  ·
   have h1 : ¬ (k : Int) < (ps.length : Int) := by omega
   obtain rfl : k = ps.length := by omega
   go_wp2
   go_ret
   exact ⟨w.heap.size + 1, l.length + 1, T, rfl, by omega, HTT.out, fun j hj => by rw [HT.out j hj, List.take_length], HB.out⟩
set_option maxHeartbeats 8000000 in
theorem walk_s (xb : Bool) (sa ka : Option Addr) (sl sc kl kc : Nat) (s : ByteArray) (l : List UInt8) (hud : s.data.toList = l) (hl : l.length ≤ 66) (g cap : Nat) (B : Nat → Bool) (w : World) (R : Bls w g (l.length + 1) B) (d gk : Nat) (ps : List Rx.Pt) (S : Nat → Prop) (IH : WalkOK d) (hka : ka = some ⟨gk, 0, none⟩) (hkl : kl = ps.length) (h0p : 0 < ps.length) (hps : ps.length ≤ 64) (HK : KidsAt S w d gk ps) (hS : ∀ g, S g → g < w.heap.size) : Calls Tryz.prog 49 #[.agg #[.int .u8 38, .bool xb, .slice sa sl sc, .slice ka kl kc], .string s, .slice (some ⟨g, 0, none⟩) (l.length + 1) cap] w (WP (ps.foldl .seq .eps) l B w) := by
 have hsz : s.size = l.length := by rw [Lib.size_eq, hud]
 have HU := Lib.hid hud;have HM := make_bools l.length (by omega);have hg := R.lt;have HIH := Lib.hid IH;have HKK := Lib.hid HK;have HSS := Lib.hid hS;subst hka hkl;clear IH HK hS;clear hud;go_enter Tryz.func49, Tryz.ntmps49
 go_wp2_with fail
 have D : At ((w.alloc (nC 38 xb sa sl sc (some ⟨gk, 0, none⟩) ps.length kc)).alloc (.cells (madeCells #[.bool false] (l.length + 1)) 4)) w.heap.size [.int .u8 38, .bool xb, .slice sa sl sc, .slice (some ⟨gk, 0, none⟩) ps.length kc] := (At.new w #[.int .u8 38, .bool xb, .slice sa sl sc, .slice (some ⟨gk, 0, none⟩) ps.length kc] 55).alloc (.cells (madeCells #[.bool false] (l.length + 1)) 4);have T0 : Bls ((w.alloc (nC 38 xb sa sl sc (some ⟨gk, 0, none⟩) ps.length kc)).alloc (.cells (madeCells #[.bool false] (l.length + 1)) 4)) (w.heap.size + 1) (l.length + 1) (fun _ => false) := by have h := bls_made (w.alloc (nC 38 xb sa sl sc (some ⟨gk, 0, none⟩) ps.length kc)) (l.length + 1); simpa using h
 have hb : Below w.heap.size w ((w.alloc (nC 38 xb sa sl sc (some ⟨gk, 0, none⟩) ps.length kc)).alloc (.cells (madeCells #[.bool false] (l.length + 1)) 4)) := by go_grown
 generalize (w.alloc (nC 38 xb sa sl sc (some ⟨gk, 0, none⟩) ps.length kc)).alloc (.cells (madeCells #[.bool false] (l.length + 1)) 4) = v0 at *;have HR := Lib.hid R;clear HM;go_loopw [12, 13] (fun x i wr => ∃ (k gx cx : Nat) (X : Nat → Bool), k ≤ ps.length ∧ x = .slice (some ⟨gx, 0, none⟩) (l.length + 1) cx ∧ i = .int .i64 (k : Int) ∧ Below w.heap.size w wr ∧ At wr w.heap.size [.int .u8 38, .bool xb, .slice sa sl sc, .slice (some ⟨gk, 0, none⟩) ps.length kc] ∧ Bls wr gx (l.length + 1) X ∧ (0 < k → w.heap.size ≤ gx) ∧ ∀ j, j ≤ l.length → (X j = true ↔ Rx.St ((ps.take k).foldl .seq .eps) l (fun i => B i = true) j)) (fun _ i _ => ps.length - (intOf i).toNat)
 case atStart => exact ⟨0, g, cap, B, Nat.zero_le _, rfl, rfl, hb, D, R.below hb, fun h => (by omega), fun j hj => (Rx.st_eps (F := fun i => B i = true) hj).symm⟩
 case round =>
  clear D T0 hb R;obtain ⟨k, gx, cx, X, hk, rfl, rfl, hb, D, RX, hgx, hX⟩ := hrel;have HB := Lib.hid hb;have HRX := Lib.hid RX;have HD := Lib.hid D;have HX := Lib.hid hX;have HG := Lib.hid hgx;have aD0 := D.cell 0 _ rfl;have aD1 := D.cell 1 _ rfl;have aD2 := D.cell 2 _ rfl;have aD3 := D.cell 3 _ rfl;clear hX hb RX hgx D;by_cases hlt : k < ps.length
  ·
   have h0 : (0 : Int) ≤ (k : Int) := by omega
   have h1 : (k : Int) < (ps.length : Int) := by omega
   obtain ⟨q, y, hq, hy, c0, c1, c2, c3⟩ := kid_at HKK.out HSS.out HB.out hlt;have HY := Lib.hid hy;have HQ := Lib.hid hq;clear hy hq;go_wp2_with fail
   refine (HIH.out y q S wr HY.out (fun g hg => Nat.lt_of_lt_of_le (HSS.out g hg) HB.out.size) s l HU.out hl gx cx X HRX.out).mono ?_;rintro e w1 ⟨g1, cap1, Z, rfl, hg1, RZ, hZ, hb1⟩;have HZ := Lib.hid hZ;have HRZ := Lib.hid RZ;have HG1 := Lib.hid (Nat.le_trans HB.out.size hg1);have HB := Lib.hid (below_then HB.out hb1);have HD := Lib.hid (HD.out.below hb1);clear aD0 aD1 aD2 aD3 c0 c1 c2 c3 hZ HY RZ hb1 hg1;go_wp2
   go_roundw
   case rel => exact ⟨k + 1, g1, cap1, Z, by omega, rfl, by go_num, HB.out, HD.out, HRZ.out, fun _ => HG1.out, fun j hj => by rw [HZ.out j hj, take_alt ps HQ.out, Rx.st_seq hj]; exact Rx.st_congr hj HX.out⟩
   case measure => simp [intOf]; omega
  ·
   have h1 : ¬ (k : Int) < (ps.length : Int) := by omega
   obtain rfl : k = ps.length := by omega
   go_wp2
   go_ret
   exact ⟨gx, cx, X, rfl, HG.out h0p, HRX.out, fun j hj => by rw [HX.out j hj, List.take_length], HB.out⟩
theorem one_at {S : Nat → Prop} {w wr : World} {d gk : Nat} {q : Rx.Pt} (h : KidsAt S w d gk [q]) (hS : ∀ g, S g → g < w.heap.size) (hb : Below w.heap.size w wr) : ∃ y, NodeIs S wr d y q ∧ wr.cell? ⟨gk, 0, none⟩ = some (.int .u8 y.o) ∧ wr.cell? ⟨gk, 1, none⟩ = some (.bool y.n) ∧ wr.cell? ⟨gk, 2, none⟩ = some (.slice y.sa y.sl y.sc) ∧ wr.cell? ⟨gk, 3, none⟩ = some (.slice y.ka y.kl y.kc) := by
 obtain ⟨q2, y, hq, hy, c⟩ := kid_at h hS hb (k := 0) (by simp);cases hq
 exact ⟨y, hy, by simpa using c⟩
theorem opt_turn {n m : Nat} {U X B : Nat → Bool} {v : Bool} (h : ∀ j, j ≤ n → U j = (decide (j < m) && (B j || X j))) (hv : v = (B m || X m)) : ∀ j, j ≤ n → (if j = m then v else U j) = (decide (j < m + 1) && (B j || X j)) := by
 intro j hj;by_cases e : j = m
 ·
  subst e; rw [if_pos rfl, decide_eq_true (by omega), hv, Bool.true_and]
 ·
  rw [if_neg e, h j hj];by_cases e2 : j < m
  ·
   rw [decide_eq_true e2, decide_eq_true (by omega)]
  ·
   rw [decide_eq_false e2, decide_eq_false (by omega)]
set_option maxHeartbeats 8000000 in
theorem walk_o (xb : Bool) (sa ka : Option Addr) (sl sc kl kc : Nat) (s : ByteArray) (l : List UInt8) (hud : s.data.toList = l) (hl : l.length ≤ 66) (g cap : Nat) (B : Nat → Bool) (w : World) (R : Bls w g (l.length + 1) B) (d gk : Nat) (q : Rx.Pt) (S : Nat → Prop) (IH : WalkOK d) (hka : ka = some ⟨gk, 0, none⟩) (hkl : kl = 1) (HK : KidsAt S w d gk [q]) (hS : ∀ g, S g → g < w.heap.size) : Calls Tryz.prog 49 #[.agg #[.int .u8 63, .bool xb, .slice sa sl sc, .slice ka kl kc], .string s, .slice (some ⟨g, 0, none⟩) (l.length + 1) cap] w (WP (.opt q) l B w) := by
 have hsz : s.size = l.length := by rw [Lib.size_eq, hud]
 have HU := Lib.hid hud;have HM := make_bools l.length (by omega);have hg := R.lt;have HIH := Lib.hid IH;have HKK := Lib.hid HK;have HSS := Lib.hid hS;subst hka hkl;clear IH HK hS;clear hud;go_enter Tryz.func49, Tryz.ntmps49
 go_upto_region 27 with (fail)
 have D : At ((w.alloc (nC 63 xb sa sl sc (some ⟨gk, 0, none⟩) 1 kc)).alloc (.cells (madeCells #[.bool false] (l.length + 1)) 4)) w.heap.size [.int .u8 63, .bool xb, .slice sa sl sc, .slice (some ⟨gk, 0, none⟩) 1 kc] := (At.new w #[.int .u8 63, .bool xb, .slice sa sl sc, .slice (some ⟨gk, 0, none⟩) 1 kc] 55).alloc (.cells (madeCells #[.bool false] (l.length + 1)) 4);have T0 : Bls ((w.alloc (nC 63 xb sa sl sc (some ⟨gk, 0, none⟩) 1 kc)).alloc (.cells (madeCells #[.bool false] (l.length + 1)) 4)) (w.heap.size + 1) (l.length + 1) (fun _ => false) := by have h := bls_made (w.alloc (nC 63 xb sa sl sc (some ⟨gk, 0, none⟩) 1 kc)) (l.length + 1); simpa using h
 have hb : Below w.heap.size w ((w.alloc (nC 63 xb sa sl sc (some ⟨gk, 0, none⟩) 1 kc)).alloc (.cells (madeCells #[.bool false] (l.length + 1)) 4)) := by go_grown
 generalize (w.alloc (nC 63 xb sa sl sc (some ⟨gk, 0, none⟩) 1 kc)).alloc (.cells (madeCells #[.bool false] (l.length + 1)) 4) = v0 at *;have HR := Lib.hid R;clear HM;have aD0 := D.cell 0 _ rfl;have aD1 := D.cell 1 _ rfl;have aD2 := D.cell 2 _ rfl;have aD3 := D.cell 3 _ rfl;have HD := Lib.hid D;have HB := Lib.hid hb;have HT0 := Lib.hid T0;obtain ⟨y, hy, c0, c1, c2, c3⟩ := one_at HKK.out HSS.out hb;have HY := Lib.hid hy;clear hy D T0;go_wp2_with fail
 refine (HIH.out y q S v0 HY.out (fun g hg => Nat.lt_of_lt_of_le (HSS.out g hg) HB.out.size) s l HU.out hl g cap B (HR.out.below HB.out)).mono ?_;rintro e w1 ⟨g1, cap1, X, rfl, hg1, RX, hX, hb1⟩;have hgt := HT0.out.lt;have HB := Lib.hid (below_then HB.out hb1);have D := HD.out.below hb1;have TT := HT0.out.below hb1;have HX := Lib.hid hX;clear aD0 aD1 aD2 aD3 c0 c1 c2 c3 hX HY HD HT0 hb1 hb R;go_wp2_with fail
 go_loopw [15] (fun i wq => ∃ (m : Nat) (U : Nat → Bool), m ≤ l.length + 1 ∧ i = .int .i64 (m : Int) ∧ Below w.heap.size w wq ∧ At wq w.heap.size [.int .u8 63, .bool xb, .slice sa sl sc, .slice (some ⟨gk, 0, none⟩) 1 kc] ∧ Bls wq (w.heap.size + 1) (l.length + 1) U ∧ Bls wq g1 (l.length + 1) X ∧ ∀ j, j ≤ l.length → U j = (decide (j < m) && (B j || X j))) (fun i _ => l.length + 1 - (intOf i).toNat)
 case atStart => exact ⟨0, _, Nat.zero_le _, rfl, HB.out, D, TT, RX, fun j _ => by rw [decide_eq_false (by omega)]; rfl⟩
 case round =>
  clear D TT RX HB;obtain ⟨m, U, hm, rfl, hb, D, UU, RX, hU⟩ := hrel;have HB := Lib.hid hb;have HUU := Lib.hid UU;have HD := Lib.hid D;have HRX := Lib.hid RX;have HU2 := Lib.hid hU;clear hb hU D;by_cases hmt : m < l.length + 1
  ·
   have j0 : (0 : Int) ≤ (m : Int) := by omega
   have j1 : (m : Int) < (l.length : Int) + 1 := by omega
   have aU := UU.cell m hmt;have zU := UU.free m hmt;have nU := UU.lt;have aX := RX.cell m hmt;have aF := (HR.out.below HB.out).cell m hmt;clear UU RX;cases hTm : B m with
   | true =>
    rw [hTm] at aF;have TM := Lib.hid hTm;clear hTm;go_wp2
    go_roundw
    case rel => exact ⟨m + 1, _, by omega, by go_num, HB.out.setCell (by dsimp only; omega) _, HD.out.far (by omega) _, HUU.out.set m hmt true, HRX.out.far (by omega) _, opt_turn HU2.out (by rw [TM.out]; rfl)⟩
    case measure => simp [intOf]; omega
   | false =>
    rw [hTm] at aF;have TM := Lib.hid hTm;clear hTm;go_wp2
    go_roundw
    case rel => exact ⟨m + 1, _, by omega, by go_num, HB.out.setCell (by dsimp only; omega) _, HD.out.far (by omega) _, HUU.out.set m hmt (X m), HRX.out.far (by omega) _, opt_turn HU2.out (by rw [TM.out]; rfl)⟩
    case measure => simp [intOf]; omega
  ·
   have j1 : ¬ (m : Int) < (l.length : Int) + 1 := by omega
   have j2 : ¬ m < l.length + 1 := hmt;obtain rfl : m = l.length + 1 := by omega
   clear UU RX;go_wp2
   go_ret
   exact ⟨w.heap.size + 1, l.length + 1, U, rfl, by omega, HUU.out, fun j hj => by rw [HU2.out j hj, decide_eq_true (by omega), Bool.true_and, Bool.or_eq_true, Rx.st_opt hj, HX.out j hj], HB.out⟩
end Go.Proofs.YthdoniefjmphaaaGreatDoor
namespace Go.Proofs.YthdoniefjmphaaaGreatDoor
open Go Go.Proofs Go.RowKit Go.Shelf
set_option maxRecDepth 100000
attribute [local go_sem] cell_set
theorem append_copy (W : World) (g n cap : Nat) (B : Nat → Bool) (R : Bls W g n B) (h0 : 0 < n) (hn : n ≤ 100) (b0 : Addr) : ∃ cx w', (Builtin.append_ #[96, 96] 96 #[.slice (some b0) 0 0, .slice (some ⟨g, 0, none⟩) n cap]).run Tryz.prog W = .ok (.slice (some ⟨W.heap.size, 0, none⟩) n cx) w' ∧ Bls w' W.heap.size n B ∧ Below W.heap.size W w' := by
 obtain ⟨i, hi, hzz⟩ := Option.map_eq_some_iff.1 bool_info;simp only [Prod.mk.injEq] at hzz;obtain ⟨hz, hs, hb⟩ := hzz;have hnx : Builtin.nextslicecap (0 + n) 0 * i.bytes ≤ 281474976710656 := by
  rw [hb, Nat.zero_add, nextslicecap_zero h0]; omega
 have h := run_append_grow (P := Tryz.prog) (w := W) 96 96 4 i (.bool false) Tryz.underlying96 hi hz b0 0 0 [] (by simp) (by intro j v hj; simp at hj) ⟨g, 0, none⟩ n cap ((List.range n).map fun j => .bool (B j)) (by simp [hs]) (fun j v hj => by
   rw [List.getElem?_map] at hj;obtain ⟨k, hk, rfl⟩ := Option.map_eq_some_iff.1 hj;obtain ⟨hl, e⟩ := List.getElem?_eq_some_iff.1 hk;simp at e hl; subst e;have e2 : (⟨g, 0, none⟩ : Addr).add j = ⟨g, j, none⟩ := by rw [show (⟨g, 0, none⟩ : Addr).add j = ⟨g, 0 + j, none⟩ from by cases j <;> rfl, Nat.zero_add]
   rw [e2]; exact R.cell j hl) (by omega) (by omega) hnx
 rw [Nat.zero_add] at h;have A := At.new W.drew (([] : List Value).toArray ++ ((List.range n).map fun j => Value.bool (B j)).toArray ++ Builtin.zeroCells (Value.bool false).cells (grownCap W n 0 4 - n)) 4;have gl : ∀ j, j < n → (([] : List Value).toArray ++ ((List.range n).map fun j => Value.bool (B j)).toArray ++ Builtin.zeroCells (Value.bool false).cells (grownCap W n 0 4 - n)).toList[j]? = some (Value.bool (B j)) := by
  intro j hj;simp only [Array.toList_append, List.nil_append];rw [List.getElem?_append_left (by simp; exact hj), List.getElem?_map, List.getElem?_range hj]; rfl
 refine ⟨_, _, h, ⟨by simp, fun j hj => A.cell j _ (gl j hj), fun j hj => A.free j (.bool (B j)) (gl j hj)⟩, ?_⟩
 ·
  exact (Below.refl _ _).drew.alloc (Nat.le_refl _) _
def offB (w : World) (g n : Nat) : Nat := (List.range n).countP fun j => match w.cell? ⟨g, j, none⟩ with | some (.bool false) => true | _ => false
def mS : Value → Nat
 | .bool true => 1
 | _ => 0
theorem off_eq {w : World} {g n : Nat} {T : Nat → Bool} (h : Bls w g n T) : offB w g n = (List.range n).countP fun j => !T j := by
 unfold offB;apply List.countP_congr;intro j hj;rw [h.cell j (by simpa using hj)];cases T j <;> simp
theorem count_le {n : Nat} {T U : Nat → Bool} (h : ∀ j, j < n → T j = true → U j = true) : ((List.range n).countP fun j => !U j) ≤ (List.range n).countP fun j => !T j := by
 apply List.countP_mono_left;intro j hj hu;have := h j (by simpa using hj);cases hT : T j
 ·
  rfl
 ·
  rw [this hT] at hu; cases hu
theorem count_lt {n : Nat} {T U : Nat → Bool} (h : ∀ j, j < n → T j = true → U j = true) {k : Nat} (hk : k < n) (h1 : T k = false) (h2 : U k = true) : ((List.range n).countP fun j => !U j) < (List.range n).countP fun j => !T j := by
 have e : ∀ (L : List Nat), (∀ j ∈ L, j < n) → k ∈ L → (L.countP fun j => !U j) < L.countP fun j => !T j := by
  intro L;induction L with
  | nil => intro _ h; cases h
  | cons a t ih =>
   intro hL hm;have hle : ∀ (M : List Nat), (∀ j ∈ M, j < n) → (M.countP fun j => !U j) ≤ M.countP fun j => !T j := by
    intro M hM;apply List.countP_mono_left;intro j hj hu;have := h j (hM j hj);cases hT : T j
    ·
     rfl
    ·
     rw [this hT] at hu; cases hu
   rw [List.countP_cons, List.countP_cons];have htl := hle t (fun j hj => hL j (List.mem_cons_of_mem _ hj));have ha := h a (hL a List.mem_cons_self);rcases List.mem_cons.1 hm with q | q
   ·
    subst q; rw [h1, h2]; simp; omega
   ·
    have := ih (fun j hj => hL j (List.mem_cons_of_mem _ hj)) q;cases hT : T a <;> cases hU : U a <;> simp [hT, hU] at ha ⊢ <;> omega
 exact e _ (fun j hj => by simpa using hj) (by simpa using hk)
def MoreAt (P a : Rx.Pt) (l : List UInt8) (B X T : Nat → Bool) (mb : Bool) : Prop :=
 (mb = true → Rx.More P a l (fun i => B i = true) (fun i => X i = true) (fun i => T i = true)) ∧ (mb = false → ∀ j, j ≤ l.length → (T j = true ↔ Rx.St P l (fun i => B i = true) j))
theorem more_turn {P a : Rx.Pt} {l : List UInt8} {B X T Y U : Nat → Bool} {nb : Bool} (h : Rx.More P a l (fun i => B i = true) (fun i => X i = true) (fun i => T i = true)) (hY : ∀ j, j ≤ l.length → (Y j = true ↔ Rx.St a l (fun i => X i = true) j)) (hU : ∀ j, j ≤ l.length → U j = (T j || Y j)) (hn : nb = true ↔ ∃ j, j ≤ l.length ∧ Y j = true ∧ T j = false) : MoreAt P a l B Y U nb := by
 have hU2 : ∀ j, j ≤ l.length → (U j = true ↔ T j = true ∨ Y j = true) := fun j hj => by rw [hU j hj, Bool.or_eq_true]
 refine ⟨fun _ => h.turn hY hU2, fun e => ?_⟩;have hno : ∀ j, j ≤ l.length → Y j = true → T j = true := by
  intro j hj hy;cases hT : T j
  ·
   have := hn.2 ⟨j, hj, hy, hT⟩; rw [e] at this; cases this
  ·
   rfl
 intro j hj;rw [← h.over hY hno j hj, hU2 j hj];exact ⟨fun q => q.elim id (hno j hj), Or.inl⟩
def NewTo (T Y : Nat → Bool) (m : Nat) : Prop := ∃ j, j < m ∧ Y j = true ∧ T j = false
theorem new_on {T Y : Nat → Bool} {m : Nat} : NewTo T Y (m + 1) ↔ NewTo T Y m ∨ (Y m = true ∧ T m = false) := by
 constructor
 ·
  rintro ⟨j, hj, h⟩;rcases Nat.lt_or_ge j m with g | g
  ·
   exact Or.inl ⟨j, g, h⟩
  ·
   have : j = m := by omega
   subst this; exact Or.inr h
 ·
  rintro (⟨j, hj, h⟩ | h)
  ·
   exact ⟨j, by omega, h⟩
  ·
   exact ⟨m, by omega, h⟩
theorem or_keep {n m : Nat} {T U X : Nat → Bool} (h : ∀ j, j ≤ n → U j = if j < m then (T j || X j) else T j) (hv : m ≤ n → (T m || X m) = T m) : ∀ j, j ≤ n → U j = if j < m + 1 then (T j || X j) else T j := by
 intro j hj;rw [h j hj];by_cases e : j = m
 ·
  subst e; rw [if_neg (by omega), if_pos (by omega), hv hj]
 ·
  by_cases e2 : j < m
  ·
   rw [if_pos e2, if_pos (by omega)]
  ·
   rw [if_neg e2, if_neg (by omega)]
set_option maxHeartbeats 8000000 in
theorem walk_p (xb : Bool) (sa ka : Option Addr) (sl sc kl kc : Nat) (s : ByteArray) (l : List UInt8) (hud : s.data.toList = l) (hl : l.length ≤ 66) (g cap : Nat) (B : Nat → Bool) (w : World) (R : Bls w g (l.length + 1) B) (d gk : Nat) (q : Rx.Pt) (S : Nat → Prop) (IH : WalkOK d) (hka : ka = some ⟨gk, 0, none⟩) (hkl : kl = 1) (HK : KidsAt S w d gk [q]) (hS : ∀ g, S g → g < w.heap.size) : Calls Tryz.prog 49 #[.agg #[.int .u8 43, .bool xb, .slice sa sl sc, .slice ka kl kc], .string s, .slice (some ⟨g, 0, none⟩) (l.length + 1) cap] w (WP (.plus q) l B w) := by
 have hsz : s.size = l.length := by rw [Lib.size_eq, hud]
 have HU := Lib.hid hud;have HM := make_bools l.length (by omega);have hg := R.lt;have HIH := Lib.hid IH;have HKK := Lib.hid HK;have HSS := Lib.hid hS;subst hka hkl;clear IH HK hS;clear hud;go_enter Tryz.func49, Tryz.ntmps49
 go_wp2_with fail
 have D : At ((w.alloc (nC 43 xb sa sl sc (some ⟨gk, 0, none⟩) 1 kc)).alloc (.cells (madeCells #[.bool false] (l.length + 1)) 4)) w.heap.size [.int .u8 43, .bool xb, .slice sa sl sc, .slice (some ⟨gk, 0, none⟩) 1 kc] := (At.new w #[.int .u8 43, .bool xb, .slice sa sl sc, .slice (some ⟨gk, 0, none⟩) 1 kc] 55).alloc (.cells (madeCells #[.bool false] (l.length + 1)) 4);have T0 : Bls ((w.alloc (nC 43 xb sa sl sc (some ⟨gk, 0, none⟩) 1 kc)).alloc (.cells (madeCells #[.bool false] (l.length + 1)) 4)) (w.heap.size + 1) (l.length + 1) (fun _ => false) := by have h := bls_made (w.alloc (nC 43 xb sa sl sc (some ⟨gk, 0, none⟩) 1 kc)) (l.length + 1); simpa using h
 have hb : Below w.heap.size w ((w.alloc (nC 43 xb sa sl sc (some ⟨gk, 0, none⟩) 1 kc)).alloc (.cells (madeCells #[.bool false] (l.length + 1)) 4)) := by go_grown
 generalize (w.alloc (nC 43 xb sa sl sc (some ⟨gk, 0, none⟩) 1 kc)).alloc (.cells (madeCells #[.bool false] (l.length + 1)) 4) = v0 at *;have HR := Lib.hid R;clear HM;have aD0 := D.cell 0 _ rfl;have aD1 := D.cell 1 _ rfl;have aD2 := D.cell 2 _ rfl;have aD3 := D.cell 3 _ rfl;go_loopw [16, 17] (fun x more wr => ∃ (gx cx : Nat) (X T : Nat → Bool) (mb : Bool), x = .slice (some ⟨gx, 0, none⟩) (l.length + 1) cx ∧ more = .bool mb ∧ Below w.heap.size w wr ∧ At wr w.heap.size [.int .u8 43, .bool xb, .slice sa sl sc, .slice (some ⟨gk, 0, none⟩) 1 kc] ∧ Bls wr gx (l.length + 1) X ∧ Bls wr (w.heap.size + 1) (l.length + 1) T ∧ gx ≠ w.heap.size + 1 ∧ MoreAt (.plus q) q l B X T mb) (fun _ more wr => 2 * offB wr (w.heap.size + 1) (l.length + 1) + mS more)
 case atStart => exact ⟨g, cap, B, _, true, rfl, rfl, hb, D, R.below hb, T0, by omega, ⟨fun _ => by simpa using Rx.More.plus q l (fun i => B i = true), fun h => by cases h⟩⟩
 case round =>
  clear D T0 hb R;obtain ⟨gx, cx, X, T, mb, rfl, rfl, hb, D, RX, TT, hne, hM⟩ := hrel;have HB := Lib.hid hb;have HRX := Lib.hid RX;have HTT := Lib.hid TT;have HD := Lib.hid D;have OT := Lib.hid (off_eq TT);obtain ⟨hM1, hM2⟩ := hM;cases mb with
  | false =>
   have HM := Lib.hid (hM2 rfl);clear hM1 hM2 hb RX TT D;go_wp2
   go_ret
   exact ⟨_, _, T, rfl, by omega, HTT.out, HM.out, HB.out⟩
  | true =>
   have HM := Lib.hid (hM1 rfl);have aD0 := D.cell 0 _ rfl;have aD1 := D.cell 1 _ rfl;have aD2 := D.cell 2 _ rfl;have aD3 := D.cell 3 _ rfl;obtain ⟨y, hy, c0, c1, c2, c3⟩ := one_at HKK.out HSS.out hb;have HY := Lib.hid hy;clear hM1 hM2 hy hb RX TT D;go_wp2_with fail
   refine (HIH.out y q S wr HY.out (fun g hg => Nat.lt_of_lt_of_le (HSS.out g hg) HB.out.size) s l HU.out hl gx cx X HRX.out).mono ?_;rintro e w1 ⟨g1, cap1, Y, rfl, hg1, RY, hY, hb1⟩;have hgt := HTT.out.lt;have HB := Lib.hid (below_then HB.out hb1);have D := HD.out.below hb1;have TT := HTT.out.below hb1;have HYY := Lib.hid hY;clear aD0 aD1 aD2 aD3 c0 c1 c2 c3 hY HY HD hb1 HRX;go_wp2_with fail
   go_loopw [17, 18] (fun more i wq => ∃ (m : Nat) (U : Nat → Bool) (nb : Bool), m ≤ l.length + 1 ∧ more = .bool nb ∧ i = .int .i64 (m : Int) ∧ Below w.heap.size w wq ∧ At wq w.heap.size [.int .u8 43, .bool xb, .slice sa sl sc, .slice (some ⟨gk, 0, none⟩) 1 kc] ∧ Bls wq (w.heap.size + 1) (l.length + 1) U ∧ Bls wq g1 (l.length + 1) Y ∧ (∀ j, j ≤ l.length → U j = if j < m then (T j || Y j) else T j) ∧ (nb = true ↔ NewTo T Y m)) (fun _ i _ => l.length + 1 - (intOf i).toNat)
   case atStart => exact ⟨0, _, false, Nat.zero_le _, rfl, rfl, HB.out, D, TT, RY, fun j _ => by rw [if_neg (by omega)], ⟨fun h => (by cases h), fun ⟨j, h, _⟩ => (by omega)⟩⟩
   case round =>
    clear D TT RY HB;obtain ⟨m, U, nb, hm, rfl, rfl, hb, D, UU, RY, hU, hnb⟩ := hrel;have HB := Lib.hid hb;have HUU := Lib.hid UU;have HD := Lib.hid D;have HRY := Lib.hid RY;have HU2 := Lib.hid hU;have HN := Lib.hid hnb;clear hb D hnb;by_cases hmt : m < l.length + 1
    ·
     have j0 : (0 : Int) ≤ (m : Int) := by omega
     have j1 : (m : Int) < (l.length : Int) + 1 := by omega
     have aU := UU.cell m hmt;have zU := UU.free m hmt;have nU := UU.lt;have aY := RY.cell m hmt;have hum : U m = T m := by rw [hU m (by omega), if_neg (by omega)]
     clear UU RY hU;cases hYm : Y m with
     | false =>
      rw [hYm] at aY;have YM := Lib.hid hYm;clear hYm hum;go_wp2
      go_roundw
      case rel => exact ⟨m + 1, U, nb, by omega, rfl, by go_num, HB.out, HD.out, HUU.out, HRY.out, or_keep HU2.out (fun _ => by rw [YM.out, Bool.or_false]), by rw [new_on, HN.out]; exact ⟨Or.inl, fun h => h.elim id (fun h => by rw [YM.out] at h; cases h.1)⟩⟩
      case measure => simp [intOf]; omega
     | true =>
      rw [hYm] at aY;have YM := Lib.hid hYm;clear hYm;cases hTm : T m with
      | true =>
       rw [hum, hTm] at aU;have TM := Lib.hid hTm;clear hTm hum;go_wp2
       go_roundw
       case rel => exact ⟨m + 1, U, nb, by omega, rfl, by go_num, HB.out, HD.out, HUU.out, HRY.out, or_keep HU2.out (fun _ => by rw [TM.out]; rfl), by rw [new_on, HN.out]; exact ⟨Or.inl, fun h => h.elim id (fun h => by rw [TM.out] at h; cases h.2)⟩⟩
       case measure => simp [intOf]; omega
      | false =>
       rw [hum, hTm] at aU;have TM := Lib.hid hTm;clear hTm hum;go_wp2
       go_roundw
       case rel => exact ⟨m + 1, _, true, by omega, rfl, by go_num, HB.out.setCell (by dsimp only; omega) _, HD.out.far (by omega) _, HUU.out.set m hmt true, HRY.out.far (by omega) _, or_turn HU2.out (by rw [TM.out, YM.out]; rfl), ⟨fun _ => new_on.2 (Or.inr ⟨YM.out, TM.out⟩), fun _ => rfl⟩⟩
       case measure => simp [intOf]; omega
    ·
     have j1 : ¬ (m : Int) < (l.length : Int) + 1 := by omega
     have j2 : ¬ m < l.length + 1 := hmt;obtain rfl : m = l.length + 1 := by omega
     have OU := Lib.hid (off_eq UU);have UY : Hid (∀ j, j ≤ l.length → U j = (T j || Y j)) := fun j hj => by rw [hU j hj, if_pos (by omega)]
     clear UU RY hU;go_wp2
     go_roundw
     case rel => exact ⟨g1, cap1, Y, U, nb, rfl, rfl, HB.out, HD.out, HRY.out, HUU.out, by omega, more_turn HM.out HYY.out UY.out (HN.out.trans ⟨fun ⟨j, h, k⟩ => ⟨j, by omega, k⟩, fun ⟨j, h, k⟩ => ⟨j, by omega, k⟩⟩)⟩
     case measure =>
      show 2 * offB _ _ _ + mS (.bool nb) < 2 * offB _ _ _ + mS (.bool true);rw [OT.out, OU.out];have hk : ∀ j, j < l.length + 1 → T j = true → U j = true := fun j hj h => by rw [UY.out j (by omega), h]; rfl
      cases nb with
      | false => have h := count_le hk; show _ + 0 < _ + 1; omega
      | true =>
       obtain ⟨j, hj, h1, h2⟩ := HN.out.1 rfl;have h := count_lt hk hj h2 (by rw [UY.out j (by omega), h1, h2]; rfl);show _ + 1 < _ + 1; omega
set_option maxHeartbeats 8000000 in
theorem walk_m (xb : Bool) (sa ka : Option Addr) (sl sc kl kc : Nat) (s : ByteArray) (l : List UInt8) (hud : s.data.toList = l) (hl : l.length ≤ 66) (g cap : Nat) (B : Nat → Bool) (w : World) (R : Bls w g (l.length + 1) B) (d gk : Nat) (q : Rx.Pt) (S : Nat → Prop) (IH : WalkOK d) (hka : ka = some ⟨gk, 0, none⟩) (hkl : kl = 1) (HK : KidsAt S w d gk [q]) (hS : ∀ g, S g → g < w.heap.size) : Calls Tryz.prog 49 #[.agg #[.int .u8 42, .bool xb, .slice sa sl sc, .slice ka kl kc], .string s, .slice (some ⟨g, 0, none⟩) (l.length + 1) cap] w (WP (.star q) l B w) := by
 have hsz : s.size = l.length := by rw [Lib.size_eq, hud]
 have HU := Lib.hid hud;have HM := make_bools l.length (by omega);have hg := R.lt;have HIH := Lib.hid IH;have HKK := Lib.hid HK;have HSS := Lib.hid hS;subst hka hkl;clear IH HK hS;clear hud;go_enter Tryz.func49, Tryz.ntmps49
 go_upto_region 35 with (fail)
 have D : At ((w.alloc (nC 42 xb sa sl sc (some ⟨gk, 0, none⟩) 1 kc)).alloc (.cells (madeCells #[.bool false] (l.length + 1)) 4)) w.heap.size [.int .u8 42, .bool xb, .slice sa sl sc, .slice (some ⟨gk, 0, none⟩) 1 kc] := (At.new w #[.int .u8 42, .bool xb, .slice sa sl sc, .slice (some ⟨gk, 0, none⟩) 1 kc] 55).alloc (.cells (madeCells #[.bool false] (l.length + 1)) 4);have T0 : Bls ((w.alloc (nC 42 xb sa sl sc (some ⟨gk, 0, none⟩) 1 kc)).alloc (.cells (madeCells #[.bool false] (l.length + 1)) 4)) (w.heap.size + 1) (l.length + 1) (fun _ => false) := by have h := bls_made (w.alloc (nC 42 xb sa sl sc (some ⟨gk, 0, none⟩) 1 kc)) (l.length + 1); simpa using h
 have hb : Below w.heap.size w ((w.alloc (nC 42 xb sa sl sc (some ⟨gk, 0, none⟩) 1 kc)).alloc (.cells (madeCells #[.bool false] (l.length + 1)) 4)) := by go_grown
 generalize (w.alloc (nC 42 xb sa sl sc (some ⟨gk, 0, none⟩) 1 kc)).alloc (.cells (madeCells #[.bool false] (l.length + 1)) 4) = v0 at *;have HR := Lib.hid R;clear HM;have aD0 := D.cell 0 _ rfl;have aD1 := D.cell 1 _ rfl;have aD2 := D.cell 2 _ rfl;have aD3 := D.cell 3 _ rfl;have D2 := D.alloc (.cells #[] 4);have hb2 := below_new hb (.cells #[] 4);have HR2 := Lib.hid (HR.out.below hb2);obtain ⟨cx, v2, hrun, T2, hb3⟩ := append_copy (v0.alloc (.cells #[] 4)) g (l.length + 1) cap B HR2.out (by omega) (by omega) ⟨v0.heap.size, 0, none⟩;have D3 := D2.below hb3;have hb4 := below_then hb2 hb3;have hv0 : w.heap.size < v0.heap.size := D.lt;have hs0 : (v0.alloc (.cells #[] 4)).heap.size = v0.heap.size + 1 := by simp
 obtain ⟨gt, hgt⟩ : ∃ gt, gt = v0.heap.size + 1 := ⟨_, rfl⟩;rw [hs0, ← hgt] at T2 hrun;have hgt2 : w.heap.size < gt := by omega
 clear hs0;have HRUN := Lib.hid hrun;have HGT := Lib.hid hgt;clear hrun hb T0 D2 hb2 hb3 HR2 hgt R;have R := HR.out;have HD0 := Lib.hid D;clear D;go_wp2_with (at_builtin; (refine Lib.wpList_append_run _ rfl _ _ 96 96 rfl _ _ rfl rfl _ _ HRUN.out ?_))
 clear aD0 aD1 aD2 aD3 HRUN;have T0 := T2;have D := D3;have hb := hb4;clear T2 D3 hb4;go_loopw [16, 17] (fun x more wr => ∃ (gx cx : Nat) (X T : Nat → Bool) (mb : Bool), x = .slice (some ⟨gx, 0, none⟩) (l.length + 1) cx ∧ more = .bool mb ∧ Below w.heap.size w wr ∧ At wr w.heap.size [.int .u8 42, .bool xb, .slice sa sl sc, .slice (some ⟨gk, 0, none⟩) 1 kc] ∧ Bls wr gx (l.length + 1) X ∧ Bls wr (gt) (l.length + 1) T ∧ gx ≠ gt ∧ MoreAt (.star q) q l B X T mb) (fun _ more wr => 2 * offB wr (gt) (l.length + 1) + mS more)
 case atStart => exact ⟨g, cap, B, _, true, rfl, rfl, hb, D, R.below hb, T0, by omega, ⟨fun _ => Rx.More.star q l (fun i => B i = true), fun h => by cases h⟩⟩
 case round =>
  clear D T0 hb R;obtain ⟨gx, cx, X, T, mb, rfl, rfl, hb, D, RX, TT, hne, hM⟩ := hrel;have HB := Lib.hid hb;have HRX := Lib.hid RX;have HTT := Lib.hid TT;have HD := Lib.hid D;have OT := Lib.hid (off_eq TT);obtain ⟨hM1, hM2⟩ := hM;cases mb with
  | false =>
   have HM := Lib.hid (hM2 rfl);clear hM1 hM2 hb RX TT D;go_wp2
   go_ret
   exact ⟨_, _, T, rfl, by omega, HTT.out, HM.out, HB.out⟩
  | true =>
   have HM := Lib.hid (hM1 rfl);have aD0 := D.cell 0 _ rfl;have aD1 := D.cell 1 _ rfl;have aD2 := D.cell 2 _ rfl;have aD3 := D.cell 3 _ rfl;obtain ⟨y, hy, c0, c1, c2, c3⟩ := one_at HKK.out HSS.out hb;have HY := Lib.hid hy;clear hM1 hM2 hy hb RX TT D;go_wp2_with fail
   refine (HIH.out y q S wr HY.out (fun g hg => Nat.lt_of_lt_of_le (HSS.out g hg) HB.out.size) s l HU.out hl gx cx X HRX.out).mono ?_;rintro e w1 ⟨g1, cap1, Y, rfl, hg1, RY, hY, hb1⟩;have hgt := HTT.out.lt;have HB := Lib.hid (below_then HB.out hb1);have D := HD.out.below hb1;have TT := HTT.out.below hb1;have HYY := Lib.hid hY;clear aD0 aD1 aD2 aD3 c0 c1 c2 c3 hY HY HD hb1 HRX;go_wp2_with fail
   go_loopw [17, 18] (fun more i wq => ∃ (m : Nat) (U : Nat → Bool) (nb : Bool), m ≤ l.length + 1 ∧ more = .bool nb ∧ i = .int .i64 (m : Int) ∧ Below w.heap.size w wq ∧ At wq w.heap.size [.int .u8 42, .bool xb, .slice sa sl sc, .slice (some ⟨gk, 0, none⟩) 1 kc] ∧ Bls wq (gt) (l.length + 1) U ∧ Bls wq g1 (l.length + 1) Y ∧ (∀ j, j ≤ l.length → U j = if j < m then (T j || Y j) else T j) ∧ (nb = true ↔ NewTo T Y m)) (fun _ i _ => l.length + 1 - (intOf i).toNat)
   case atStart => exact ⟨0, _, false, Nat.zero_le _, rfl, rfl, HB.out, D, TT, RY, fun j _ => by rw [if_neg (by omega)], ⟨fun h => (by cases h), fun ⟨j, h, _⟩ => (by omega)⟩⟩
   case round =>
    clear D TT RY HB;obtain ⟨m, U, nb, hm, rfl, rfl, hb, D, UU, RY, hU, hnb⟩ := hrel;have HB := Lib.hid hb;have HUU := Lib.hid UU;have HD := Lib.hid D;have HRY := Lib.hid RY;have HU2 := Lib.hid hU;have HN := Lib.hid hnb;clear hb D hnb;by_cases hmt : m < l.length + 1
    ·
     have j0 : (0 : Int) ≤ (m : Int) := by omega
     have j1 : (m : Int) < (l.length : Int) + 1 := by omega
     have aU := UU.cell m hmt;have zU := UU.free m hmt;have nU := UU.lt;have aY := RY.cell m hmt;have hum : U m = T m := by rw [hU m (by omega), if_neg (by omega)]
     clear UU RY hU;cases hYm : Y m with
     | false =>
      rw [hYm] at aY;have YM := Lib.hid hYm;clear hYm hum;go_wp2
      go_roundw
      case rel => exact ⟨m + 1, U, nb, by omega, rfl, by go_num, HB.out, HD.out, HUU.out, HRY.out, or_keep HU2.out (fun _ => by rw [YM.out, Bool.or_false]), by rw [new_on, HN.out]; exact ⟨Or.inl, fun h => h.elim id (fun h => by rw [YM.out] at h; cases h.1)⟩⟩
      case measure => simp [intOf]; omega
     | true =>
      rw [hYm] at aY;have YM := Lib.hid hYm;clear hYm;cases hTm : T m with
      | true =>
       rw [hum, hTm] at aU;have TM := Lib.hid hTm;clear hTm hum;go_wp2
       go_roundw
       case rel => exact ⟨m + 1, U, nb, by omega, rfl, by go_num, HB.out, HD.out, HUU.out, HRY.out, or_keep HU2.out (fun _ => by rw [TM.out]; rfl), by rw [new_on, HN.out]; exact ⟨Or.inl, fun h => h.elim id (fun h => by rw [TM.out] at h; cases h.2)⟩⟩
       case measure => simp [intOf]; omega
      | false =>
       rw [hum, hTm] at aU;have TM := Lib.hid hTm;clear hTm hum;go_wp2
       go_roundw
       case rel => exact ⟨m + 1, _, true, by omega, rfl, by go_num, HB.out.setCell (by dsimp only; omega) _, HD.out.far (by omega) _, HUU.out.set m hmt true, HRY.out.far (by omega) _, or_turn HU2.out (by rw [TM.out, YM.out]; rfl), ⟨fun _ => new_on.2 (Or.inr ⟨YM.out, TM.out⟩), fun _ => rfl⟩⟩
       case measure => simp [intOf]; omega
    ·
     have j1 : ¬ (m : Int) < (l.length : Int) + 1 := by omega
     have j2 : ¬ m < l.length + 1 := hmt;obtain rfl : m = l.length + 1 := by omega
     have OU := Lib.hid (off_eq UU);have UY : Hid (∀ j, j ≤ l.length → U j = (T j || Y j)) := fun j hj => by rw [hU j hj, if_pos (by omega)]
     clear UU RY hU;go_wp2
     go_roundw
     case rel => exact ⟨g1, cap1, Y, U, nb, rfl, rfl, HB.out, HD.out, HRY.out, HUU.out, by omega, more_turn HM.out HYY.out UY.out (HN.out.trans ⟨fun ⟨j, h, k⟩ => ⟨j, by omega, k⟩, fun ⟨j, h, k⟩ => ⟨j, by omega, k⟩⟩)⟩
     case measure =>
      show 2 * offB _ _ _ + mS (.bool nb) < 2 * offB _ _ _ + mS (.bool true);rw [OT.out, OU.out];have hk : ∀ j, j < l.length + 1 → T j = true → U j = true := fun j hj h => by rw [UY.out j (by omega), h]; rfl
      cases nb with
      | false => have h := count_le hk; show _ + 0 < _ + 1; omega
      | true =>
       obtain ⟨j, hj, h1, h2⟩ := HN.out.1 rfl;have h := count_lt hk hj h2 (by rw [UY.out j (by omega), h1, h2]; rfl);show _ + 1 < _ + 1; omega
end Go.Proofs.YthdoniefjmphaaaGreatDoor
namespace Go.Proofs.YthdoniefjmphaaaGreatDoor
open Go Go.Proofs Go.RowKit Go.Shelf
set_option maxRecDepth 100000
attribute [local go_sem] cell_set ndV
theorem walk_any : ∀ d, WalkOK d := by
  intro d;induction d with
  | zero => intro x p S w h; exact h.elim
  | succ d ih =>
    intro x p S w h hS s l hud hl g cap B R;obtain ⟨o, xb, sa, sl, sc, ka, kl, kc⟩ := x;rcases h with ⟨rs, ho, hset, h126, hp⟩ | ⟨ho, hp⟩ | ⟨ps, gk, hop, hka, hkl, h0, h64, hSg, hk⟩ | ⟨q, gk, hop, hka, hkl, hSg, y, hy, hc⟩
    · dsimp only at ho hset hp;subst ho hp;obtain ⟨hn, ⟨_, h70⟩, g0, hsa, hSg, hcells⟩ := hset;subst hsa hn;refine walk_c xb (some ⟨g0, 0, none⟩) ka rs.length sc kl kc s l hud hl g cap B w R _ (fun c u hb => ?_);have k := takes_set xb g0 sc kl kc ka rs c u h70 (Nat.lt_of_lt_of_le (hS g0 hSg) hb.size) (fun j r hj => ⟨(hb.cell (p := ⟨g0, j * 2, none⟩) (hS g0 hSg)).trans (hcells j r hj).1, (hb.cell (p := ⟨g0, j * 2 + 1, none⟩) (hS g0 hSg)).trans (hcells j r hj).2⟩);rw [← Rx.maskB_bit xb rs h126 c.toNat c.toNat_lt] at k;exact k
    · dsimp only at ho;subst ho hp;refine walk_d xb sa ka sl sc kl kc s l hud hl g cap B w R _ (fun c u hb => ?_);rw [Rx.fullM_bit c.toNat c.toNat_lt];exact takes_dot xb sa ka sl sc kl kc c u
    · dsimp only at hop hka hkl;have HK : KidsAt S w d gk ps := ⟨hSg, hk⟩;rcases hop with ⟨ho, hp⟩ | ⟨ho, hp⟩
      · subst ho hp;exact walk_a xb sa ka sl sc kl kc s l hud hl g cap B w R d gk ps S ih hka hkl h64 HK hS
      · subst ho hp;exact walk_s xb sa ka sl sc kl kc s l hud hl g cap B w R d gk ps S ih hka hkl h0 h64 HK hS
    · dsimp only at hop hka hkl;have HK : KidsAt S w d gk [q] := ⟨hSg, fun j r hr => by
        match j, hr with
        | 0, hr => cases hr; exact ⟨y, hy, fun i v hv => by have := hc i v hv; simpa using this⟩
        | j + 1, hr => cases hr⟩
      rcases hop with ⟨ho, hp⟩ | ⟨ho, hp⟩ | ⟨ho, hp⟩
      · subst ho hp;exact walk_m xb sa ka sl sc kl kc s l hud hl g cap B w R d gk q S ih hka hkl HK hS
      · subst ho hp;exact walk_p xb sa ka sl sc kl kc s l hud hl g cap B w R d gk q S ih hka hkl HK hS
      · subst ho hp;exact walk_o xb sa ka sl sc kl kc s l hud hl g cap B w R d gk q S ih hka hkl HK hS
set_option maxHeartbeats 4000000 in
theorem rmatch_any (d : Nat) (x : Nd) (p : Rx.Pt) (S : Nat → Prop) (w : World) (h : NodeIs S w d x p) (hS : ∀ g, S g → g < w.heap.size) (s : ByteArray) (l : List UInt8) (hud : s.data.toList = l) (hl : l.length ≤ 66) (b : Bool) (hb : b = true ↔ Rx.Lang p l) :
    Calls Tryz.prog 34 #[ndV x, .string s] w fun e w' => e = .returned (.bool b) ∧ Below w.heap.size w w' := by
  have hsz : s.size = l.length := by rw [Lib.size_eq, hud]
  have HU := Lib.hid hud;have HM := make_bools l.length (by omega);have HN := Lib.hid h;have HSS := Lib.hid hS;have HBB := Lib.hid hb;clear hud h hS hb;obtain ⟨o, xb, sa, sl, sc, ka, kl, kc⟩ := x;show Calls _ _ #[.agg #[.int .u8 o, .bool xb, .slice sa sl sc, .slice ka kl kc], .string s] _ _;go_enter Tryz.func34, Tryz.ntmps34
  go_upto_region 2 with (fail)
  have D : At ((w.alloc (nC o xb sa sl sc ka kl kc)).alloc (.cells (madeCells #[.bool false] (l.length + 1)) 4)) w.heap.size [.int .u8 o, .bool xb, .slice sa sl sc, .slice ka kl kc] := (At.new w #[.int .u8 o, .bool xb, .slice sa sl sc, .slice ka kl kc] 55).alloc (.cells (madeCells #[.bool false] (l.length + 1)) 4);have T0 : Bls ((w.alloc (nC o xb sa sl sc ka kl kc)).alloc (.cells (madeCells #[.bool false] (l.length + 1)) 4)) (w.heap.size + 1) (l.length + 1) (fun _ => false) := by have h := bls_made (w.alloc (nC o xb sa sl sc ka kl kc)) (l.length + 1); simpa using h
  have hb : Below w.heap.size w ((w.alloc (nC o xb sa sl sc ka kl kc)).alloc (.cells (madeCells #[.bool false] (l.length + 1)) 4)) := by go_grown
  generalize (w.alloc (nC o xb sa sl sc ka kl kc)).alloc (.cells (madeCells #[.bool false] (l.length + 1)) 4) = v0 at *;clear HM;have aT := T0.cell 0 (by omega);have zT := T0.free 0 (by omega);have nT := T0.lt;have HB := Lib.hid (hb.setCell (p := ⟨w.heap.size + 1, 0, none⟩) (by dsimp only; omega) (.bool true));have D := D.far (b' := w.heap.size + 1) (j := 0) (by omega) (.bool true);have HT := Lib.hid (T0.set 0 (by omega) true);have h0 : (0 : Int) < (l.length : Int) + 1 := by omega
  have aD0 := D.cell 0 _ rfl;have aD1 := D.cell 1 _ rfl;have aD2 := D.cell 2 _ rfl;have aD3 := D.cell 3 _ rfl;clear hb D T0;go_upto_region 3 with (fail)
  clear aT zT nT;generalize v0.setCell ⟨w.heap.size + 1, 0, none⟩ (.bool true) = v1 at *;go_wp2_with fail
  refine (walk_any d ⟨o, xb, sa, sl, sc, ka, kl, kc⟩ p S v1 (HN.out.keep (fun _ h => h) (fun g hg => HB.out.block g (HSS.out g hg))) (fun g hg => Nat.lt_of_lt_of_le (HSS.out g hg) HB.out.size) s l HU.out hl (w.heap.size + 1) (l.length + 1) _ HT.out).mono ?_;rintro e w1 ⟨g1, cap1, X, rfl, hg1, RX, hX, hb1⟩;have HB := Lib.hid (below_then HB.out hb1);have hxb : X l.length = b := by
    rw [Bool.eq_iff_iff, hX l.length (Nat.le_refl _), HBB.out, ← Rx.st_all p l];refine Rx.st_congr (Nat.le_refl _) (fun i _ => ?_);dsimp only;by_cases e : i = 0
    · rw [if_pos e]; exact ⟨fun _ => e, fun _ => rfl⟩
    · rw [if_neg e]; exact ⟨fun h => (by cases h), fun h => (e h).elim⟩
  have aX := RX.cell l.length (by omega);rw [hxb] at aX;have h1 : (0 : Int) ≤ (l.length : Int) := by omega
  have h2 : (l.length : Int) < (l.length : Int) + 1 := by omega
  clear aD0 aD1 aD2 aD3 hX hb1 hg1 RX hxb HT;go_wp2
  go_ret
  exact ⟨rfl, HB.out⟩
end Go.Proofs.YthdoniefjmphaaaGreatDoor
