/- The text of matchers, and back: mathematics; match.Parse of good matchers' text. -/
import Derived.Test.YthdoniefjmphaaaGreatDoorMtK
import Derived.Test.YthdoniefjmphaaaGreatDoorRfH
namespace Go.Proofs.YthdoniefjmphaaaGreatDoor
open Go Go.Proofs Go.RowKit Go.Shelf
set_option maxRecDepth 100000
theorem tE_esc (l : List UInt8) : ∀ (S t : List UInt8), tE S (escR l ++ 34 :: t) = some (S ++ l, t) := by
 induction l with
 | nil => intro S t; rw [show escR [] = [] from rfl, List.nil_append, tE_q _ _ _ rfl]; simp
 | cons c l ih =>
  intro S t;have e : escR (c :: l) = escC c ++ escR l := by unfold escR; rw [List.flatMap_cons]
  rw [e];unfold escC;by_cases h : c.toNat = 34 ∨ c.toNat = 92
  ·
   rw [if_pos h];show tE S (92 :: c :: (escR l ++ 34 :: t)) = _;rw [tE_b1 _ _ _ _ rfl h, ih];simp
  ·
   rw [if_neg h];show tE S (c :: (escR l ++ 34 :: t)) = _;rw [tE_c _ _ _ (fun e => h (.inl e)) (fun e => h (.inr e)), ih];simp
theorem hp_app (a t : List UInt8) : Lib.hasPrefix (a ++ t) a = true := by unfold Lib.hasPrefix; rw [List.isPrefixOf_iff_prefix]; exact ⟨t, rfl⟩
theorem tp_app (a t : List UInt8) : Lib.trimPrefix (a ++ t) a = t := by unfold Lib.trimPrefix; rw [if_pos (hp_app a t), List.drop_left]
theorem head4 (c : UInt8) : headB op4 c = (c == 61 || c == 33) := by
 have k := hp_one;rw [Bool.eq_iff_iff];unfold headB op4;rw [List.any_eq_true, Bool.or_eq_true, beq_iff_eq, beq_iff_eq];constructor
 ·
  rintro ⟨op, hm, hp⟩;obtain ⟨t, e⟩ := (k op c).1 hp;simp only [List.mem_cons, List.not_mem_nil, or_false] at hm;rcases hm with rfl | rfl | rfl | rfl
  ·
   injection e with e _; exact .inl e.symm
  ·
   injection e with e _; exact .inr e.symm
  ·
   injection e with e _; exact .inl e.symm
  ·
   injection e with e _; exact .inr e.symm
 ·
  rintro (rfl | rfl)
  ·
   exact ⟨[61], by simp, by decide⟩
  ·
   exact ⟨[33, 61], by simp, by decide⟩
def MatOk (x : Itm) : Prop := x.1 ≠ [] ∧ (∀ c ∈ x.1, c ≠ 61 ∧ c ≠ 33 ∧ c ≠ 125) ∧ (x.2.1 = [61] ∨ x.2.1 = [33, 61] ∨ x.2.1 = [61, 126] ∨ x.2.1 = [33, 126])
theorem cut4 (n r : List UInt8) (c : UInt8) (hc : c = 61 ∨ c = 33) (h : ∀ c ∈ n, c ≠ 61 ∧ c ≠ 33 ∧ c ≠ 125) : cutN op4 (n ++ c :: r) = (n, c :: r) := by
 have hh : headB op4 c = true := by rw [head4]; rcases hc with rfl | rfl <;> decide
 unfold cutN;induction n with
 | nil => rw [List.nil_append, List.takeWhile_cons, List.dropWhile_cons, if_neg (by rw [hh]; simp), if_neg (by rw [hh]; simp)]
 | cons a u ih =>
  have ha : (!headB op4 a) = true := by
   rw [head4];obtain ⟨h1, h2, _⟩ := h a List.mem_cons_self;rw [beq_eq_false_iff_ne.2 h1, beq_eq_false_iff_ne.2 h2]; rfl
  have := ih (fun c hc => h c (List.mem_cons_of_mem _ hc));rw [Prod.mk.injEq] at this;rw [List.cons_append, List.takeWhile_cons, List.dropWhile_cons, if_pos ha, if_pos ha, this.1, this.2]
theorem long4 (o r : List UInt8) (ho : o = [61] ∨ o = [33, 61] ∨ o = [61, 126] ∨ o = [33, 126]) : longR op4 (o ++ 34 :: r) = o := by
 rcases ho with rfl | rfl | rfl | rfl <;> rfl
theorem take_mat (a : List UInt8) (x : Itm) (t : List UInt8) (h : MatOk x) : takeI op4 a (a ++ (itT x ++ t)) = some (x, t) := by
 obtain ⟨n, o, u⟩ := x;obtain ⟨-, h2, h3⟩ := h;dsimp only at h2 h3;have e : itT (n, o, u) ++ t = n ++ (o ++ 34 :: (escR u ++ 34 :: t)) := by unfold itT quoR; simp
 have hc : cutN op4 (n ++ (o ++ 34 :: (escR u ++ 34 :: t))) = (n, o ++ 34 :: (escR u ++ 34 :: t)) := by
  rcases h3 with rfl | rfl | rfl | rfl
  ·
   exact cut4 n _ 61 (.inl rfl) h2
  ·
   exact cut4 n _ 33 (.inr rfl) h2
  ·
   exact cut4 n _ 61 (.inl rfl) h2
  ·
   exact cut4 n _ 33 (.inr rfl) h2
 have ho : o ≠ [] := by rcases h3 with rfl | rfl | rfl | rfl <;> simp
 have hq : Lib.trimPrefix (34 :: (escR u ++ 34 :: t)) [34] = escR u ++ 34 :: t := tp_app [34] _;have hp : Lib.hasPrefix (34 :: (escR u ++ 34 :: t)) [34] = true := hp_app [34] _;unfold takeI;rw [tp_app, e, hc];dsimp only;rw [long4 _ _ h3, List.drop_left, hq, tE_esc];dsimp only;rw [if_pos ⟨hp_app _ _, ho, hp⟩];rfl
def restM : List SItm → List UInt8
 | [] => [125]
 | x :: t => [44] ++ (itT x.1 ++ restM t)
theorem run_restM (t : List SItm) : ∀ s, (t.foldl iStep (s, [44])).1 ++ [125] = s ++ restM t := by
 induction t with
 | nil => intro s; rfl
 | cons x t ih =>
  intro s;rw [List.foldl_cons];show (t.foldl iStep (s ++ [44] ++ itT x.1, [44])).1 ++ [125] = _;rw [ih];show _ = s ++ ([44] ++ (itT x.1 ++ restM t));simp
theorem textM_cons (x : SItm) (t : List SItm) : textM (x :: t) = [123] ++ (itT x.1 ++ restM t) := by
 unfold textM runI;rw [List.foldl_cons];show (t.foldl iStep ([123] ++ [] ++ itT x.1, [44])).1 ++ [125] = _;rw [run_restM];simp
attribute [local irreducible] WrI
theorem wri_text (t : List SItm) : ∀ (a : List UInt8) (x : SItm), (∀ z ∈ x :: t, MatOk z.1) → WrI op4 a (a ++ (itT x.1 ++ restM t)) ((x, true) :: t.map fun y => (y, true)) := by
 induction t with
 | nil =>
  intro a x h;have e := take_mat a x.1 (restM []) (h x List.mem_cons_self);unfold WrI;rw [e];dsimp only;refine ⟨rfl, rfl, ?_⟩;rw [if_pos (show restM [] = [125] from rfl)];rfl
 | cons y t ih =>
  intro a x h;have e := take_mat a x.1 (restM (y :: t)) (h x List.mem_cons_self);unfold WrI;rw [e];dsimp only;refine ⟨rfl, rfl, ?_⟩;rw [if_neg (by show ¬ ([44] ++ (itT y.1 ++ restM t)) = [125]; intro e; have := congrArg List.head? e; simp at this)];rw [show restM (y :: t) = [44] ++ (itT y.1 ++ restM t) from rfl, List.map_cons];have h' : ∀ z ∈ y :: t, MatOk z.1 := fun z hz => h z (List.mem_cons_of_mem _ hz)
  have q := ih [44] y h';exact q
theorem wrSI_text (zs : List SItm) (h : ∀ z ∈ zs, MatOk z.1) : WrSI op4 (textM zs) (zs.map fun y => (y, true)) := by
 unfold WrSI;cases zs with
 | nil => rw [if_pos (by decide), if_pos (by decide)]; rfl
 | cons x t =>
  rw [textM_cons];obtain ⟨h1, h2, -⟩ := h x List.mem_cons_self;rw [if_neg]
  ·
   rw [List.map_cons];have q := wri_text t [123] x h;exact q
  ·
   cases hx : x.1.1 with
   | nil => exact absurd hx h1
   | cons c u =>
    have hc := (h2 c (by rw [hx]; exact List.mem_cons_self)).2.2;unfold Lib.hasPrefix itT;rw [hx];have hc' : (125 == c) = false := by rw [beq_eq_false_iff_ne]; exact fun e => hc e.symm
    simp [List.isPrefixOf, hc']
theorem nameM_ok {n : List UInt8} (h : nameR n = true) : n ≠ [] ∧ ∀ c ∈ n, c ≠ 61 ∧ c ≠ 33 ∧ c ≠ 125 := by
 cases n with
 | nil => cases h
 | cons a t =>
  refine ⟨by simp, fun c hc => ?_⟩;unfold nameR at h;rw [Bool.and_eq_true] at h;have hw := List.all_eq_true.1 h.2 c hc;refine ⟨?_, ?_, ?_⟩
  ·
   rintro rfl; revert hw; decide
  ·
   rintro rfl; revert hw; decide
  ·
   rintro rfl; revert hw; decide
theorem mat_ok {x : Itm} (h : chk1 x = 0) : MatOk x := by
 obtain ⟨n, o, u⟩ := x;have hn : nameR n = true := by
  by_cases a1 : nameR n = false
  ·
   unfold chk1 at h; rw [if_pos a1] at h; omega
  ·
   simpa using a1
 obtain ⟨h1, h2⟩ := nameM_ok hn;refine ⟨h1, h2, ?_⟩;rcases op_cases o with ho | ho | ho | ho | ho
 ·
  exact .inl ho
 ·
  exact .inr (.inl ho)
 ·
  exact .inr (.inr (.inl ho))
 ·
  exact .inr (.inr (.inr ho))
 ·
  exact absurd h (op_bad ho)
theorem chkM_all : ∀ {zs : List SItm}, chkM zs = 0 → ∀ x ∈ zs, chk1 x.1 = 0 := by
 intro zs;induction zs with
 | nil => intro _ x hx; cases hx
 | cons y t ih =>
  intro h x hx;have h1 : chk1 y.1 = 0 := by
   by_cases q : chk1 y.1 = 0
   ·
    exact q
   ·
    exfalso;have e : chkM [y] = chk1 y.1 := chkM_snoc [] y rfl;have := chkM_pre [y] t (by rw [e]; exact q);rw [List.singleton_append] at this;rw [this, e] at h;exact q h
  have e : chkM [y] = 0 := by rw [← h1]; exact chkM_snoc [] y rfl
  have h2 := chkM_app [y] t e;rw [List.singleton_append, h] at h2;rcases List.mem_cons.1 hx with rfl | hx
  ·
   exact h1
  ·
   exact ih h2.symm x hx
theorem checkM_zero {zs : List SItm} (h : checkMR zs = 0) : zs.length ≤ 8 ∧ ∀ x ∈ zs, chk1 x.1 = 0 := by
 unfold checkMR at h;by_cases h1 : 8 < zs.length
 ·
  rw [if_pos h1] at h; cases h
 ·
  rw [if_neg h1] at h; exact ⟨by omega, chkM_all h⟩
theorem textM_len (zs : List SItm) (h : zs.length ≤ 8) : (textM zs).length ≤ 100000 := by
 have := (runI_len zs).1;unfold textM;rw [List.length_append];simp only [List.length_cons, List.length_nil];omega
theorem mparse_text (zs : List SItm) (h : checkMR zs = 0) (w : World) (hT : Tab w) :
  Calls Tryz.prog 13 #[.string ⟨(textM zs).toArray⟩] w fun e w' => ∃ v, e = .returned (.tuple #[v, .int .i64 0]) ∧ MtL w'.heap.size w' v zs ∧ Below w.heap.size w w' := by
 obtain ⟨hl, hz⟩ := checkM_zero h;have hok : allOkI (zs.map fun y => (y, true)) := fun z hz => by obtain ⟨y, _, rfl⟩ := List.mem_map.1 hz; rfl
 have hmap : (zs.map fun y => (y, true)).map (·.1) = zs := by rw [List.map_map]; exact List.map_id zs
 have hpc : parseM (zs.map fun y => (y, true)) = 0 := by unfold parseM; rw [if_pos hok, hmap]; exact h
 refine (mparse_any (textM zs) (textM_len zs hl) _ (wrSI_text zs (fun x hx => mat_ok (hz x hx))) (by rw [List.length_map]; omega) w hT).mono ?_;rintro e w' ⟨v, rfl, h1, _, h3⟩;refine ⟨v, by rw [hpc], ?_, h3⟩;have := h1 hpc
 rwa [hmap] at this
end Go.Proofs.YthdoniefjmphaaaGreatDoor
