/- The texts of labels as they are read (mathematics), by the reading of items with the one word '='. -/
import Derived.Test.YtgldieboflmnhaaGreatDoorBrT
namespace Go.Proofs.YtgldieboflmnhaaGreatDoor
open Go Go.Proofs Go.RowKit Go.Shelf
set_option maxRecDepth 100000
def cutR (l : List UInt8) : List UInt8 × List UInt8 × Bool := if l.contains 61 = true then (l.takeWhile (· != 61), (l.dropWhile (· != 61)).drop 1, true) else (l, [], false)
def takeL (a s : List UInt8) : Option (Lab × List UInt8) :=
  match tE [] (Lib.trimPrefix (cutR (Lib.trimPrefix s a)).2.1 [34]) with
  | none => none
  | some (v, r) => if Lib.hasPrefix s a = true ∧ Lib.hasPrefix (cutR (Lib.trimPrefix s a)).2.1 [34] = true then some (((cutR (Lib.trimPrefix s a)).1, v), r) else none
theorem trim_len (s p : List UInt8) : (Lib.trimPrefix s p).length ≤ s.length := by
  unfold Lib.trimPrefix; split
  · rw [List.length_drop]; omega
  · exact Nat.le_refl _
theorem cut_len (l : List UInt8) : (cutR l).2.1.length ≤ l.length := by
  unfold cutR; split
  · dsimp only
    rw [List.length_drop]
    have := (List.dropWhile_sublist (p := (· != 61)) (l := l)).length_le
    omega
  · simp
def nilLab : SLab := ⟨([], []), by unfold Short; simp⟩
/-- what comes of the text r, where a stands ahead of the next label -/
def Wr : List UInt8 → List UInt8 → List (SLab × Bool) → Prop
  | _, _, [] => False
  | a, r, z :: t => match takeL a r with
    | none => z = (nilLab, false) ∧ t = []
    | some (x, b) => z.1.1 = x ∧ z.2 = true ∧ (if b = [125] then t = [] else Wr [44] b t)
theorem wr_none {a r : List UInt8} {z : SLab × Bool} {t : List (SLab × Bool)} (h : Wr a r (z :: t)) (e : takeL a r = none) : z = (nilLab, false) ∧ t = [] := by
  unfold Wr at h; rw [e] at h; exact h
theorem wr_some {a r b : List UInt8} {x : Lab} {z : SLab × Bool} {t : List (SLab × Bool)} (h : Wr a r (z :: t)) (e : takeL a r = some (x, b)) : z.1.1 = x ∧ z.2 = true ∧ (if b = [125] then t = [] else Wr [44] b t) := by
  unfold Wr at h; rw [e] at h; exact h
def WrS (s : List UInt8) (zs : List (SLab × Bool)) : Prop :=
  if Lib.hasPrefix s [123, 125] = true then (if Lib.trimPrefix s [123, 125] = [] then zs = [] else zs = [(nilLab, false)]) else Wr [123] s zs
theorem te_len (s : List UInt8) : ∀ S v r, tE S s = some (v, r) → r.length < s.length := by
  induction hn : s.length using Nat.strongRecOn generalizing s with
  | _ n ih =>
    intro S v r h
    match s, hn with
    | [], _ => rw [tE_nil] at h; cases h
    | c :: t, hn =>
      by_cases h1 : c.toNat = 34
      · rw [tE_q _ _ _ h1] at h; cases h; simp at hn; omega
      · by_cases h2 : c.toNat = 92
        · match t, hn with
          | [], _ => rw [tE_b0 _ _ h2] at h; cases h
          | d :: u, hn =>
            by_cases h3 : d.toNat = 34 ∨ d.toNat = 92
            · rw [tE_b1 _ _ _ _ h2 h3] at h
              have := ih u.length (by simp at hn; omega) u rfl _ _ _ h
              simp at hn; omega
            · rw [tE_b2 _ _ _ _ h2 h3] at h; cases h
        · rw [tE_c _ _ _ h1 h2] at h
          have := ih t.length (by simp at hn; omega) t rfl _ _ _ h
          simp at hn; omega
theorem take_lt (a s : List UInt8) (x : Lab) (b : List UInt8) (h : takeL a s = some (x, b)) : b.length < s.length := by
  unfold takeL at h
  have h1 := trim_len s a
  have h2 := cut_len (Lib.trimPrefix s a)
  have h3 := trim_len (cutR (Lib.trimPrefix s a)).2.1 [34]
  split at h
  · cases h
  · rename_i v r he
    have h4 := te_len _ _ _ _ he
    split at h
    · cases h; omega
    · cases h
theorem hp_one (s : List UInt8) (c : UInt8) : Lib.hasPrefix s [c] = true ↔ ∃ t, s = c :: t := by
  unfold Lib.hasPrefix
  rw [List.isPrefixOf_iff_prefix]
  constructor
  · rintro ⟨t, h⟩; exact ⟨t, h.symm⟩
  · rintro ⟨t, rfl⟩; exact ⟨t, rfl⟩
def isW : List (List UInt8) := [[61]]
theorem headW (c : UInt8) : (!headB isW c) = (c != 61) := by
  rw [Bool.eq_iff_iff]
  unfold headB isW
  rw [Bool.not_eq_true', bne_iff_ne]
  have k := hp_one [61] c
  constructor
  · intro h e
    subst e
    have : Lib.hasPrefix [61] [61] = true := by decide
    simp [this] at h
  · intro h
    have : Lib.hasPrefix [61] [c] = false := by
      rw [← Bool.not_eq_true, k]
      rintro ⟨t, e⟩
      injection e with e1 e2
      exact h e1.symm
    simp [this]
theorem cutW (l : List UInt8) : cutN isW l = (l.takeWhile (· != 61), l.dropWhile (· != 61)) := by
  unfold cutN
  have e : (fun c => !headB isW c) = (fun c : UInt8 => c != 61) := funext headW
  rw [e]
theorem longW (s : List UInt8) : longR isW s = if Lib.hasPrefix s [61] = true then [61] else [] := by
  show longF s [] [61] = _
  unfold longF
  by_cases h : Lib.hasPrefix s [61] = true
  · rw [if_pos h, if_pos ⟨by simp, h⟩]
  · rw [if_neg h, if_neg (fun q => h q.2)]
theorem dw_head (l : List UInt8) : (l.contains 61 = true ∧ ∃ t, l.dropWhile (· != 61) = 61 :: t) ∨ (l.contains 61 = false ∧ l.dropWhile (· != 61) = []) := by
  induction l with
  | nil => right; exact ⟨rfl, rfl⟩
  | cons a t ih =>
    by_cases h : a = 61
    · left; subst h; exact ⟨by simp, t, by simp⟩
    · have ha : (a != 61) = true := by rw [bne_iff_ne]; exact h
      have hc : (a :: t).contains 61 = t.contains 61 := by
        rw [List.contains_cons]
        have : ((61 : UInt8) == a) = false := by rw [beq_eq_false_iff_ne]; exact fun e => h e.symm
        rw [this, Bool.false_or]
      rw [List.dropWhile_cons, if_pos ha, hc]
      exact ih
def labI (x : Lab) : Itm := (x.1, [61], x.2)
/-- an item with '=' is a label -/
theorem takeW (a s : List UInt8) : takeI isW a s = (takeL a s).map (fun xr => (labI xr.1, xr.2)) := by
  unfold takeI takeL
  rw [cutW]
  dsimp only
  generalize Lib.trimPrefix s a = u
  rw [longW]
  rcases dw_head u with ⟨hc, t, ht⟩ | ⟨hc, ht⟩
  · have hp : Lib.hasPrefix (61 :: t) [61] = true := (hp_one _ _).2 ⟨t, rfl⟩
    have hcut : cutR u = (u.takeWhile (· != 61), t, true) := by unfold cutR; rw [if_pos hc, ht]; rfl
    rw [ht, if_pos hp, hcut]
    rw [show List.drop ([61] : List UInt8).length (61 :: t) = t from rfl]
    dsimp only
    cases tE [] (Lib.trimPrefix t [34]) with
    | none => rfl
    | some vr =>
      obtain ⟨v, r⟩ := vr
      dsimp only
      by_cases h : Lib.hasPrefix s a = true ∧ Lib.hasPrefix t [34] = true
      · rw [if_pos h, if_pos ⟨h.1, by simp, h.2⟩]; rfl
      · rw [if_neg h, if_neg (fun q => h ⟨q.1, q.2.2⟩)]; rfl
  · have hp : ¬ Lib.hasPrefix ([] : List UInt8) [61] = true := by rw [hp_one]; rintro ⟨t, e⟩; cases e
    have hcut : cutR u = (u, [], false) := by unfold cutR; rw [if_neg (by rw [hc]; simp)]
    have h34 : ¬ Lib.hasPrefix ([] : List UInt8) [34] = true := by rw [hp_one]; rintro ⟨t, e⟩; cases e
    rw [ht, if_neg hp, hcut]
    dsimp only
    rw [List.drop_nil]
    cases tE [] (Lib.trimPrefix [] [34]) with
    | none => rfl
    | some vr =>
      obtain ⟨v, r⟩ := vr
      dsimp only
      rw [if_neg (fun q => q.2.1 rfl), if_neg (fun q => h34 q.2)]; rfl
end Go.Proofs.YtgldieboflmnhaaGreatDoor
/- braces.written: the items of a text, one by one: the iterator's contract. -/
namespace Go.Proofs.YtgldieboflmnhaaGreatDoor
open Go Go.Proofs Go.RowKit Go.Shelf
set_option maxRecDepth 100000
attribute [local go_sem] Oper.semAt_some
theorem grown_belowI {W w2 : World} (h : Below W.heap.size W w2) : W.grownBy w2 none := ⟨h.os, h.tape, h.output, h.size, fun k hk _ => h.block k hk⟩
theorem abides_belowI {β : Type} {B : Nat} {J : β → World → Prop} (h : AbidesFrom B J) {s : β} {W w2 : World} (hj : J s W) (hb : Below W.heap.size W w2) : J s w2 :=
  h s W w2 none hj (grown_belowI hb) (fun r e => by cases e)
def ShortI (x : Itm) : Prop := x.1.length ≤ 1000 ∧ x.2.1.length ≤ 1000 ∧ x.2.2.length ≤ 1000
abbrev SItm := { x : Itm // ShortI x }
def nilItm : SItm := ⟨([], [], []), by unfold ShortI; simp⟩
/-- what comes of the text r, where a stands ahead of the next item -/
def WrI (ops : List (List UInt8)) : List UInt8 → List UInt8 → List (SItm × Bool) → Prop
  | _, _, [] => False
  | a, r, z :: t => match takeI ops a r with
    | none => z = (nilItm, false) ∧ t = []
    | some (x, b) => z.1.1 = x ∧ z.2 = true ∧ (if b = [125] then t = [] else WrI ops [44] b t)
theorem wri_none {ops : List (List UInt8)} {a r : List UInt8} {z : SItm × Bool} {t : List (SItm × Bool)} (h : WrI ops a r (z :: t)) (e : takeI ops a r = none) : z = (nilItm, false) ∧ t = [] := by
  unfold WrI at h; rw [e] at h; exact h
theorem wri_some {ops : List (List UInt8)} {a r b : List UInt8} {x : Itm} {z : SItm × Bool} {t : List (SItm × Bool)} (h : WrI ops a r (z :: t)) (e : takeI ops a r = some (x, b)) : z.1.1 = x ∧ z.2 = true ∧ (if b = [125] then t = [] else WrI ops [44] b t) := by
  unfold WrI at h; rw [e] at h; exact h
def WrSI (ops : List (List UInt8)) (s : List UInt8) (zs : List (SItm × Bool)) : Prop :=
  if Lib.hasPrefix s [123, 125] = true then (if Lib.trimPrefix s [123, 125] = [] then zs = [] else zs = [(nilItm, false)]) else WrI ops [123] s zs
theorem takeI_lt (ops : List (List UInt8)) (a s : List UInt8) (x : Itm) (b : List UInt8) (h : takeI ops a s = some (x, b)) : b.length < s.length := by
  unfold takeI at h
  have h1 := trimI_len s a
  have h2 : (cutN ops (Lib.trimPrefix s a)).2.length ≤ (Lib.trimPrefix s a).length := dw_len _ _
  have h3 := trimI_len ((cutN ops (Lib.trimPrefix s a)).2.drop (longR ops (cutN ops (Lib.trimPrefix s a)).2).length) [34]
  rw [List.length_drop] at h3
  split at h
  · cases h
  · rename_i v r he
    have h4 := te_len _ _ _ _ he
    split at h
    · cases h; omega
    · cases h
/-- what a round keeps: the blocks below n₀, and the box that holds the words -/
def KpB (n₀ Bo : Nat) (W W' : World) : Prop := Below n₀ W W' ∧ ∀ v, W.cell? ⟨Bo, 0, none⟩ = some v → W'.cell? ⟨Bo, 0, none⟩ = some v
theorem kpB_t {n₀ Bo : Nat} {A B C : World} (h : KpB n₀ Bo A B) (k : KpB n₀ Bo B C) : KpB n₀ Bo A C := ⟨h.1.trans k.1, fun v e => k.2 v (h.2 v e)⟩
theorem kpB_b {n₀ Bo : Nat} {w : World} (hn : n₀ ≤ w.heap.size) (W : World) (l : Nat) (o o' : Obj) (hl : w.heap.size ≤ l) (h : W.heap[l]? = some o) (h1 : o.isCells = false) (h2 : o.isWalk = false) : KpB n₀ Bo W (W.putObj l o') :=
  ⟨belowK_b hn W l o o' hl h h1 h2, fun v e => by
    have hne : Bo ≠ l := by
      intro q; subst q
      unfold World.cell? at e
      dsimp only at e
      rw [h] at e
      cases o <;> simp_all [Obj.isCells]
    exact (World.cell?_of_block (a := ⟨Bo, 0, none⟩) (World.putObj_heap_other hne)).trans e⟩
theorem kpB_below {n₀ Bo : Nat} {W W' : World} (hn : n₀ ≤ W.heap.size) (hB : Bo < W.heap.size) (h : Below W.heap.size W W') : KpB n₀ Bo W W' := ⟨h.mono hn, fun v e => (h.cell (p := ⟨Bo, 0, none⟩) hB).trans e⟩
/-- the words in their box -/
def OpsAt (ops : List STx) (sv : Value) (Bo n₀ : Nat) (W : World) : Prop := W.cell? ⟨Bo, 0, none⟩ = some sv ∧ TxAt n₀ W sv (ops.map (·.1)) ∧ Bo < W.heap.size ∧ n₀ ≤ W.heap.size
theorem OpsAt.below {ops : List STx} {sv : Value} {Bo n₀ : Nat} {W W' : World} (h : OpsAt ops sv Bo n₀ W) (hb : Below W.heap.size W W') : OpsAt ops sv Bo n₀ W' :=
  ⟨(hb.cell (p := ⟨Bo, 0, none⟩) h.2.2.1).trans h.1, h.2.1.below (hb.mono h.2.2.2), Nat.lt_of_lt_of_le h.2.2.1 hb.size, Nat.le_trans h.2.2.2 hb.size⟩
theorem OpsAt.kp {ops : List STx} {sv : Value} {Bo n₀ : Nat} {W W' : World} (h : OpsAt ops sv Bo n₀ W) (k : KpB n₀ Bo W W') : OpsAt ops sv Bo n₀ W' :=
  ⟨k.2 _ h.1, h.2.1.below k.1, Nat.lt_of_lt_of_le h.2.2.1 k.1.size, Nat.le_trans h.2.2.2 k.1.size⟩
theorem OpsAt.tx {ops : List STx} {sv : Value} {Bo n₀ : Nat} {W : World} (h : OpsAt ops sv Bo n₀ W) : TxAt W.heap.size W sv (ops.map (·.1)) := h.2.1.mono h.2.2.2
def lenOf : Value → Nat
  | .string s => s.size
  | _ => 0
def wEncI (x : SItm × Bool) : Array Value := #[itmV x.1.1, .bool x.2]
theorem cut2I_any (s : List UInt8) (W : World) : Calls Tryz.prog 43 #[.string ⟨s.toArray⟩, .string ⟨#[123, 125]⟩] W fun e w' => e = .returned (.tuple #[.string ⟨(Lib.trimPrefix s [123, 125]).toArray⟩, .bool (Lib.hasPrefix s [123, 125])]) ∧ W = w' :=
  (Tryz.strings_CutPrefix ⟨s.toArray⟩ ⟨#[123, 125]⟩ W).mono (fun _ _ ⟨x, y⟩ => ⟨x, y.symm⟩)
set_option maxHeartbeats 4000000 in
theorem bwritten1_in (ops : List STx) (sv : Value) (l Bs Bo n₀ : Nat) (s : List UInt8) (hs : s.length ≤ 100000) (zs : List (SItm × Bool)) (hZ : WrSI (ops.map (·.1)) s zs) (J Jx : List (SItm × Bool) → World → Prop)
    (hJ : ∀ pre W w2, J pre W → Below W.heap.size W w2 → J pre w2)
    (hY : ∀ pre x W, J pre W → pre.length < zs.length → YieldAt Fence.wide 7 Tryz.prog l (wEncI x) W fun e W' =>
      (e = .returned (.bool true) ∧ J (pre ++ [x]) W' ∧ KpB n₀ Bo W W') ∨ (e = .returned (.bool false) ∧ Jx (pre ++ [x]) W'))
    (W : World) (hBs : W.cell? ⟨Bs, 0, none⟩ = some (.string ⟨s.toArray⟩)) (hO : OpsAt ops sv Bo n₀ W) (h0 : J [] W) :
    CallsIn Fence.wide 8 Tryz.prog 81 #[.func (.yield l) #[] #[], .pointer (some ⟨Bs, 0, none⟩), .pointer (some ⟨Bo, 0, none⟩)] W fun e W' => (∃ v, e = .returned v) ∧
      ((∃ ys, ys = zs ∧ J ys W') ∨ (∃ pre, pre <+: zs ∧ Jx pre W')) := by
  refine callsIn_of_wp Tryz.func81 rfl trivial ?_ rfl
  simp only [Tryz.ntmps81, List.size_toArray, List.length_cons, List.length_nil, Nat.reduceAdd, Nat.reduceSub, Array.replicate_succ, Array.replicate_zero, List.push_toArray, List.append_toArray, List.nil_append, List.cons_append]
  have HC := Lib.hid (cut2I_any s W)
  have H0 := Lib.hid h0
  have HO := Lib.hid hO
  unfold WrSI at hZ
  clear h0 hO
  cases hp : Lib.hasPrefix s [123, 125]
  · rw [hp] at HC
    rw [if_neg (by rw [hp]; simp)] at hZ
    have HZ := Lib.hid hZ
    clear hZ hp
    gi_wp2
    refine ⟨trivial, (callsIn_wide.2 HC.out).mono ?_⟩
    rintro e w2 ⟨rfl, rfl⟩
    generalize Lib.trimPrefix s [123, 125] = u at *
    clear HC
    gi_wp2
    gi_region
    gi_wp2
    gi_loopw [6, 7] (fun a6 r6 wr => ∃ (pre post : List (SItm × Bool)) (a r : List UInt8), a6 = .string ⟨a.toArray⟩ ∧ r6 = .string ⟨r.toArray⟩ ∧ r.length ≤ 100000 ∧ WrI (ops.map (·.1)) a r post ∧ zs = pre ++ post ∧ J pre wr ∧ OpsAt ops sv Bo n₀ wr) (fun _ r6 _ => lenOf r6)
    case atStart => exact ⟨[], zs, [123], s, rfl, rfl, hs, HZ.out, rfl, hJ _ _ _ H0.out (by go_grown), HO.out.below (by go_grown)⟩
    case round =>
      obtain ⟨pre, post, a, r, rfl, rfl, hr, hW, hz, hj, hO⟩ := hrel
      rcases post with _ | ⟨z, t⟩
      · exact hW.elim
      have hlp : pre.length < zs.length := by rw [hz]; simp
      have HT := Lib.hid (btake_any ops sv a r hr wr hO.tx)
      have cO := hO.1
      have HO := Lib.hid hO
      have HH := Lib.hid hY
      have HJ := Lib.hid hJ
      have Hj := Lib.hid hj
      have Hz := Lib.hid hz
      clear hY hJ hj hz H0 HZ hO
      cases ht : takeI (ops.map (·.1)) a r with
      | none =>
        obtain ⟨rfl, rfl⟩ := wri_none hW ht
        rw [ht] at HT
        dsimp only [takeIV, itmV] at HT
        clear hW ht
        gi_wp2
        refine ⟨trivial, (callsIn_wide.2 HT.out).mono ?_⟩
        rintro e w2 ⟨rfl, hb⟩
        have j2 := HJ.out _ _ (w2.alloc (.cells #[.string ⟨#[]⟩, .string ⟨#[]⟩, .string ⟨#[]⟩] 94)) Hj.out (hb.alloc hb.size _)
        obtain ⟨fn, tmps, assign, body, hy, hR⟩ := HH.out pre (nilItm, false) _ j2 hlp
        dsimp only [wEncI, itmV, nilItm] at hy
        clear HT hb
        gi_wp2
        refine hR.mono ?_
        rintro e W3 (⟨rfl, hJ3, _⟩ | ⟨rfl, hJx3⟩)
        · have HJ3 := Lib.hid hJ3
          clear hJ3 j2 hR
          gi_wp2
          refine bodyPost_ret (results_none rfl _ _ _) rfl ?_
          exact ⟨⟨_, rfl⟩, .inl ⟨_, by rw [Hz.out], HJ3.out⟩⟩
        · have HJ3 := Lib.hid hJx3
          clear hJx3 j2 hR
          gi_wp2
          refine bodyPost_ret (results_none rfl _ _ _) rfl ?_
          exact ⟨⟨_, rfl⟩, .inr ⟨_, by rw [Hz.out]; exact List.prefix_refl _, HJ3.out⟩⟩
      | some xb =>
        obtain ⟨x, b⟩ := xb
        obtain ⟨hx1, hx2, hx3⟩ := wri_some hW ht
        have hlt := takeI_lt _ _ _ _ _ ht
        rw [ht] at HT
        dsimp only [takeIV, itmV] at HT
        clear hW ht
        obtain ⟨⟨y, hy0⟩, bo⟩ := z
        dsimp only at hx1 hx2
        subst hx1 hx2
        gi_wp2
        refine ⟨trivial, (callsIn_wide.2 HT.out).mono ?_⟩
        rintro e w2 ⟨rfl, hb⟩
        have j2 := HJ.out _ _ (w2.alloc (.cells #[.string ⟨y.1.toArray⟩, .string ⟨y.2.1.toArray⟩, .string ⟨y.2.2.toArray⟩] 94)) Hj.out (hb.alloc hb.size _)
        obtain ⟨fn, tmps, assign, body, hy, hR⟩ := HH.out pre (⟨y, hy0⟩, true) _ j2 hlp
        dsimp only [wEncI, itmV] at hy
        have HBT := Lib.hid hb
        clear HT hb
        gi_wp2
        refine hR.mono ?_
        rintro e W3 (⟨rfl, hJ3, hk3⟩ | ⟨rfl, hJx3⟩)
        · have HJ3 := Lib.hid hJ3
          have HK3 := Lib.hid hk3
          clear hJ3 j2 hR hk3
          have g1 : ByteArray.toList ⟨b.toArray⟩ = b := by rw [ByteArray.toList_eq]
          by_cases hb : b = [125]
          · rw [if_pos hb] at hx3
            subst hb hx3
            gi_wp2
            refine bodyPost_ret (results_none rfl _ _ _) rfl ?_
            exact ⟨⟨_, rfl⟩, .inl ⟨_, by rw [Hz.out], HJ3.out⟩⟩
          · rw [if_neg hb] at hx3
            have hbb : (b == [125]) = false := by rw [beq_eq_false_iff_ne]; exact hb
            have HX := Lib.hid hx3
            clear hx3 hb
            gi_wp2
            go_roundw
            case rel => exact ⟨pre ++ [(⟨y, hy0⟩, true)], t, [44], b, rfl, rfl, by omega, HX.out, by rw [Hz.out]; simp, HJ3.out, ((HO.out.below (below_then HBT.out (below_cells _))).kp HK3.out)⟩
            case measure => simp only [lenOf]; exact hlt
        · have HJ3 := Lib.hid hJx3
          clear hJx3 j2 hR
          gi_wp2
          refine bodyPost_ret (results_none rfl _ _ _) rfl ?_
          exact ⟨⟨_, rfl⟩, .inr ⟨_, by rw [Hz.out]; exact ⟨t, by simp⟩, HJ3.out⟩⟩
  · rw [hp] at HC
    rw [if_pos hp] at hZ
    by_cases hu : Lib.trimPrefix s [123, 125] = []
    · rw [if_pos hu] at hZ
      rw [hu] at HC
      subst hZ
      clear hp hu
      gi_wp2
      refine ⟨trivial, (callsIn_wide.2 HC.out).mono ?_⟩
      rintro e w2 ⟨rfl, rfl⟩
      gi_wp2
      refine bodyPost_ret (results_none rfl _ _ _) rfl ?_
      exact ⟨⟨_, rfl⟩, .inl ⟨_, rfl, H0.out⟩⟩
    · rw [if_neg hu] at hZ
      subst hZ
      have hu2 : (Lib.trimPrefix s [123, 125]).isEmpty = false := by
        cases h : Lib.trimPrefix s [123, 125] with
        | nil => exact absurd h hu
        | cons _ _ => rfl
      generalize Lib.trimPrefix s [123, 125] = u at *
      have g1 : ByteArray.toList ⟨u.toArray⟩ = u := by rw [ByteArray.toList_eq]
      obtain ⟨fn, tmps, assign, body, hy, hR⟩ := hY [] (nilItm, false) W H0.out (by simp)
      dsimp only [wEncI, itmV, nilItm] at hy
      clear hp hu hY hJ
      gi_wp2
      refine ⟨trivial, (callsIn_wide.2 HC.out).mono ?_⟩
      rintro e w2 ⟨rfl, rfl⟩
      gi_wp2
      refine hR.mono ?_
      rintro e W3 (⟨rfl, hJ3, _⟩ | ⟨rfl, hJx3⟩)
      · have HJ3 := Lib.hid hJ3
        clear hJ3 hR
        gi_wp2
        refine bodyPost_ret (results_none rfl _ _ _) rfl ?_
        exact ⟨⟨_, rfl⟩, .inl ⟨_, rfl, HJ3.out⟩⟩
      · have HJ3 := Lib.hid hJx3
        clear hJx3 hR
        gi_wp2
        refine bodyPost_ret (results_none rfl _ _ _) rfl ?_
        exact ⟨⟨_, rfl⟩, .inr ⟨_, List.prefix_refl _, HJ3.out⟩⟩
/-- written(s, ops): both are boxed; the function value captures the boxes -/
theorem bwritten_in (s : List UInt8) (A : Option Addr) (L C : Nat) (w : World) :
    CallsIn Fence.wide 8 Tryz.prog 61 #[.string ⟨s.toArray⟩, .slice A L C] w fun e w' => e = .returned (.func (.func 81) #[] #[.pointer (some ⟨w.heap.size, 0, none⟩), .pointer (some ⟨w.heap.size + 1, 0, none⟩)]) ∧ w' = (w.alloc (.cells #[.string ⟨s.toArray⟩] 9)).alloc (.cells #[.slice A L C] 112) := by
  refine callsIn_of_wp Tryz.func61 rfl trivial ?_ rfl
  simp only [Tryz.ntmps61, List.size_toArray, List.length_cons, List.length_nil, Nat.reduceAdd, Nat.reduceSub, Array.replicate_succ, Array.replicate_zero, List.push_toArray, List.append_toArray, List.nil_append, List.cons_append]
  gi_wp2
  go_ret
  exact ⟨rfl, rfl⟩
theorem bwritten_stops (ops : List STx) (sv : Value) (Bs Bo n₀ : Nat) (s : List UInt8) (hs : s.length ≤ 100000) (zs : List (SItm × Bool)) (hZ : WrSI (ops.map (·.1)) s zs) (w : World) (hBs : Bs < w.heap.size)
    (hc : w.cell? ⟨Bs, 0, none⟩ = some (.string ⟨s.toArray⟩)) (hO : OpsAt ops sv Bo n₀ w) :
    SeqStopsK Fence.wide 8 Tryz.prog 81 #[.pointer (some ⟨Bs, 0, none⟩), .pointer (some ⟨Bo, 0, none⟩)] wEncI (KpB n₀ Bo) (fun ys => ys = zs) (fun pre => pre <+: zs) zs.length w := fun l J Jx W hW hJ _ hY h0 =>
  bwritten1_in ops sv l Bs Bo n₀ s hs zs hZ J Jx (fun _ _ _ hj hb => abides_belowI hJ hj hb) hY W ((hW.cell (p := ⟨Bs, 0, none⟩) hBs).trans hc) (hO.below hW) h0
end Go.Proofs.YtgldieboflmnhaaGreatDoor
