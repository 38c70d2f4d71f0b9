/- label.written: the labels of a text, one by one: the iterator's contract. -/
import Derived.Test.YtggipcihigddkaaDoorCheck
import Derived.Test.YtggipcihigddkaaDoorTakeL
namespace Go.Proofs.YtggipcihigddkaaDoor
open Go Go.Proofs Go.RowKit Go.Shelf
set_option maxRecDepth 100000
attribute [local go_sem] Oper.semAt_some
theorem abides_below {β : Type} {B : Nat} {J : β → World → Prop} (h : AbidesFrom B J) {s : β} {W w2 : World} (hj : J s W) (hb : Below W.heap.size W w2) : J s w2 :=
  h s W w2 none hj (grown_below hb) (fun r e => by cases e)
def nilLab : SLab := ⟨([], []), by unfold Short; simp⟩
/-- what comes of the text r, where a stands ahead of the next label -/
def Wr : List UInt8 → List UInt8 → List (SLab × Bool) → Prop
  | _, _, [] => False
  | a, r, z :: t => match takeL a r with
    | none => z = (nilLab, false) ∧ t = []
    | some (x, b) => z.1.1 = x ∧ z.2 = true ∧ (if b = [125] then t = [] else Wr [44] b t)
theorem wr_none {a r : List UInt8} {z : SLab × Bool} {t : List (SLab × Bool)} (h : Wr a r (z :: t)) (e : takeL a r = none) : z = (nilLab, false) ∧ t = [] := by
  unfold Wr at h; rw [e] at h; exact h
theorem wr_some {a r b : List UInt8} {x : Lab} {z : SLab × Bool} {t : List (SLab × Bool)} (h : Wr a r (z :: t)) (e : takeL a r = some (x, b)) : z.1.1 = x ∧ z.2 = true ∧ (if b = [125] then t = [] else Wr [44] b t) := by
  unfold Wr at h; rw [e] at h; exact h
def WrS (s : List UInt8) (zs : List (SLab × Bool)) : Prop :=
  if Lib.hasPrefix s [123, 125] = true then (if Lib.trimPrefix s [123, 125] = [] then zs = [] else zs = [(nilLab, false)]) else Wr [123] s zs
theorem te_len (s : List UInt8) : ∀ S v r, tE S s = some (v, r) → r.length < s.length := by
  induction hn : s.length using Nat.strongRecOn generalizing s with
  | _ n ih =>
    intro S v r h
    match s, hn with
    | [], _ => rw [tE_nil] at h; cases h
    | c :: t, hn =>
      by_cases h1 : c.toNat = 34
      · rw [tE_q _ _ _ h1] at h; cases h; simp at hn; omega
      · by_cases h2 : c.toNat = 92
        · match t, hn with
          | [], _ => rw [tE_b0 _ _ h2] at h; cases h
          | d :: u, hn =>
            by_cases h3 : d.toNat = 34 ∨ d.toNat = 92
            · rw [tE_b1 _ _ _ _ h2 h3] at h
              have := ih u.length (by simp at hn; omega) u rfl _ _ _ h
              simp at hn; omega
            · rw [tE_b2 _ _ _ _ h2 h3] at h; cases h
        · rw [tE_c _ _ _ h1 h2] at h
          have := ih t.length (by simp at hn; omega) t rfl _ _ _ h
          simp at hn; omega
theorem take_lt (a s : List UInt8) (x : Lab) (b : List UInt8) (h : takeL a s = some (x, b)) : b.length < s.length := by
  unfold takeL at h
  have h1 := trim_len s a
  have h2 := cut_len (Lib.trimPrefix s a)
  have h3 := trim_len (cutR (Lib.trimPrefix s a)).2.1 [34]
  split at h
  · cases h
  · rename_i v r he
    have h4 := te_len _ _ _ _ he
    split at h
    · cases h; omega
    · cases h
def lenOf : Value → Nat
  | .string s => s.size
  | _ => 0
def wEnc (x : SLab × Bool) : Array Value := #[labV x.1.1, .bool x.2]
theorem cut2_any (s : List UInt8) (W : World) : Calls Tryd.prog 54 #[.string ⟨s.toArray⟩, .string ⟨#[123, 125]⟩] W fun e w' => e = .returned (.tuple #[.string ⟨(Lib.trimPrefix s [123, 125]).toArray⟩, .bool (Lib.hasPrefix s [123, 125])]) ∧ W = w' :=
  (Tryd.strings_CutPrefix ⟨s.toArray⟩ ⟨#[123, 125]⟩ W).mono (fun _ _ ⟨x, y⟩ => ⟨x, y.symm⟩)
set_option maxHeartbeats 4000000 in
theorem written1_in (l Bs n₀ : Nat) (s : List UInt8) (hs : s.length ≤ 100000) (zs : List (SLab × Bool)) (hZ : WrS s zs) (J Jx : List (SLab × Bool) → World → Prop)
    (hJ : ∀ pre W w2, J pre W → Below W.heap.size W w2 → J pre w2)
    (hY : ∀ pre x W, J pre W → pre.length < zs.length → YieldAt Fence.wide 7 Tryd.prog l (wEnc x) W fun e W' =>
      (e = .returned (.bool true) ∧ J (pre ++ [x]) W' ∧ Below n₀ W W') ∨ (e = .returned (.bool false) ∧ Jx (pre ++ [x]) W'))
    (W : World) (hBs : W.cell? ⟨Bs, 0, none⟩ = some (.string ⟨s.toArray⟩)) (h0 : J [] W) :
    CallsIn Fence.wide 8 Tryd.prog 53 #[.func (.yield l) #[] #[], .pointer (some ⟨Bs, 0, none⟩)] W fun e W' => (∃ v, e = .returned v) ∧
      ((∃ ys, ys = zs ∧ J ys W') ∨ (∃ pre, pre <+: zs ∧ Jx pre W')) := by
  refine callsIn_of_wp Tryd.func53 rfl trivial ?_ rfl
  simp only [Tryd.ntmps53, List.size_toArray, List.length_cons, List.length_nil, Nat.reduceAdd, Nat.reduceSub, Array.replicate_succ, Array.replicate_zero, List.push_toArray, List.append_toArray, List.nil_append, List.cons_append]
  have HC := Lib.hid (cut2_any s W)
  have H0 := Lib.hid h0
  unfold WrS at hZ
  clear h0
  cases hp : Lib.hasPrefix s [123, 125]
  · rw [hp] at HC
    rw [if_neg (by rw [hp]; simp)] at hZ
    have HZ := Lib.hid hZ
    clear hZ hp
    gi_wp2
    refine ⟨trivial, (callsIn_wide.2 HC.out).mono ?_⟩
    rintro e w2 ⟨rfl, rfl⟩
    generalize Lib.trimPrefix s [123, 125] = u at *
    clear HC
    gi_wp2
    gi_region
    gi_wp2
    gi_loopw [5, 6] (fun a6 r6 wr => ∃ (pre post : List (SLab × Bool)) (a r : List UInt8), a6 = .string ⟨a.toArray⟩ ∧ r6 = .string ⟨r.toArray⟩ ∧ r.length ≤ 100000 ∧ Wr a r post ∧ zs = pre ++ post ∧ J pre wr) (fun _ r6 _ => lenOf r6)
    case atStart => exact ⟨[], zs, [123], s, rfl, rfl, hs, HZ.out, rfl, hJ _ _ _ H0.out (by go_grown)⟩
    case round =>
      obtain ⟨pre, post, a, r, rfl, rfl, hr, hW, hz, hj⟩ := hrel
      rcases post with _ | ⟨z, t⟩
      · exact hW.elim
      have hlp : pre.length < zs.length := by rw [hz]; simp
      have HT := Lib.hid (take_any a r hr wr)
      have HH := Lib.hid hY
      have HJ := Lib.hid hJ
      have Hj := Lib.hid hj
      have Hz := Lib.hid hz
      clear hY hJ hj hz H0 HZ
      cases ht : takeL a r with
      | none =>
        obtain ⟨rfl, rfl⟩ := wr_none hW ht
        rw [ht] at HT
        dsimp only [takeLV] at HT
        clear hW ht
        gi_wp2
        refine ⟨trivial, (callsIn_wide.2 HT.out).mono ?_⟩
        rintro e w2 ⟨rfl, hb⟩
        have j2 := HJ.out _ _ (w2.alloc (.cells #[.string ⟨#[]⟩, .string ⟨#[]⟩] 55)) Hj.out (hb.alloc hb.size _)
        obtain ⟨fn, tmps, assign, body, hy, hR⟩ := HH.out pre (nilLab, false) _ j2 hlp
        dsimp only [wEnc, labV, nilLab] at hy
        clear HT hb
        gi_wp2
        refine hR.mono ?_
        rintro e W3 (⟨rfl, hJ3, _⟩ | ⟨rfl, hJx3⟩)
        · have HJ3 := Lib.hid hJ3
          clear hJ3 j2 hR
          gi_wp2
          refine bodyPost_ret (results_none rfl _ _ _) rfl ?_
          exact ⟨⟨_, rfl⟩, .inl ⟨_, by rw [Hz.out], HJ3.out⟩⟩
        · have HJ3 := Lib.hid hJx3
          clear hJx3 j2 hR
          gi_wp2
          refine bodyPost_ret (results_none rfl _ _ _) rfl ?_
          exact ⟨⟨_, rfl⟩, .inr ⟨_, by rw [Hz.out]; exact List.prefix_refl _, HJ3.out⟩⟩
      | some xb =>
        obtain ⟨x, b⟩ := xb
        obtain ⟨hx1, hx2, hx3⟩ := wr_some hW ht
        have hlt := take_lt _ _ _ _ ht
        rw [ht] at HT
        dsimp only [takeLV] at HT
        clear hW ht
        obtain ⟨⟨y, hy0⟩, bo⟩ := z
        dsimp only at hx1 hx2
        subst hx1 hx2
        gi_wp2
        refine ⟨trivial, (callsIn_wide.2 HT.out).mono ?_⟩
        rintro e w2 ⟨rfl, hb⟩
        have j2 := HJ.out _ _ (w2.alloc (.cells #[.string ⟨y.1.toArray⟩, .string ⟨y.2.toArray⟩] 55)) Hj.out (hb.alloc hb.size _)
        obtain ⟨fn, tmps, assign, body, hy, hR⟩ := HH.out pre (⟨y, hy0⟩, true) _ j2 hlp
        dsimp only [wEnc, labV] at hy
        clear HT hb
        gi_wp2
        refine hR.mono ?_
        rintro e W3 (⟨rfl, hJ3, _⟩ | ⟨rfl, hJx3⟩)
        · have HJ3 := Lib.hid hJ3
          clear hJ3 j2 hR
          have g1 : ByteArray.toList ⟨b.toArray⟩ = b := by rw [ByteArray.toList_eq]
          by_cases hb : b = [125]
          · rw [if_pos hb] at hx3
            subst hb hx3
            gi_wp2
            refine bodyPost_ret (results_none rfl _ _ _) rfl ?_
            exact ⟨⟨_, rfl⟩, .inl ⟨_, by rw [Hz.out], HJ3.out⟩⟩
          · rw [if_neg hb] at hx3
            have hbb : (b == [125]) = false := by rw [beq_eq_false_iff_ne]; exact hb
            have HX := Lib.hid hx3
            clear hx3 hb
            gi_wp2
            go_roundw
            case rel => exact ⟨pre ++ [(⟨y, hy0⟩, true)], t, [44], b, rfl, rfl, by omega, HX.out, by rw [Hz.out]; simp, HJ3.out⟩
            case measure => simp only [lenOf]; exact hlt
        · have HJ3 := Lib.hid hJx3
          clear hJx3 j2 hR
          gi_wp2
          refine bodyPost_ret (results_none rfl _ _ _) rfl ?_
          exact ⟨⟨_, rfl⟩, .inr ⟨_, by rw [Hz.out]; exact ⟨t, by simp⟩, HJ3.out⟩⟩
  · rw [hp] at HC
    rw [if_pos hp] at hZ
    by_cases hu : Lib.trimPrefix s [123, 125] = []
    · rw [if_pos hu] at hZ
      rw [hu] at HC
      subst hZ
      clear hp hu
      gi_wp2
      refine ⟨trivial, (callsIn_wide.2 HC.out).mono ?_⟩
      rintro e w2 ⟨rfl, rfl⟩
      gi_wp2
      refine bodyPost_ret (results_none rfl _ _ _) rfl ?_
      exact ⟨⟨_, rfl⟩, .inl ⟨_, rfl, H0.out⟩⟩
    · rw [if_neg hu] at hZ
      subst hZ
      have hu2 : (Lib.trimPrefix s [123, 125]).isEmpty = false := by
        cases h : Lib.trimPrefix s [123, 125] with
        | nil => exact absurd h hu
        | cons _ _ => rfl
      generalize Lib.trimPrefix s [123, 125] = u at *
      have g1 : ByteArray.toList ⟨u.toArray⟩ = u := by rw [ByteArray.toList_eq]
      obtain ⟨fn, tmps, assign, body, hy, hR⟩ := hY [] (nilLab, false) W H0.out (by simp)
      dsimp only [wEnc, labV, nilLab] at hy
      clear hp hu hY hJ
      gi_wp2
      refine ⟨trivial, (callsIn_wide.2 HC.out).mono ?_⟩
      rintro e w2 ⟨rfl, rfl⟩
      gi_wp2
      refine hR.mono ?_
      rintro e W3 (⟨rfl, hJ3, _⟩ | ⟨rfl, hJx3⟩)
      · have HJ3 := Lib.hid hJ3
        clear hJ3 hR
        gi_wp2
        refine bodyPost_ret (results_none rfl _ _ _) rfl ?_
        exact ⟨⟨_, rfl⟩, .inl ⟨_, rfl, HJ3.out⟩⟩
      · have HJ3 := Lib.hid hJx3
        clear hJx3 hR
        gi_wp2
        refine bodyPost_ret (results_none rfl _ _ _) rfl ?_
        exact ⟨⟨_, rfl⟩, .inr ⟨_, List.prefix_refl _, HJ3.out⟩⟩
/-- written(s): the text is boxed; the function value captures the box -/
theorem written_in (s : List UInt8) (w : World) :
    CallsIn Fence.wide 8 Tryd.prog 39 #[.string ⟨s.toArray⟩] w fun e w' => e = .returned (.func (.func 53) #[] #[.pointer (some ⟨w.heap.size, 0, none⟩)]) ∧ w' = w.alloc (.cells #[.string ⟨s.toArray⟩] 9) := by
  refine callsIn_of_wp Tryd.func39 rfl trivial ?_ rfl
  simp only [Tryd.ntmps39, List.size_toArray, List.length_cons, List.length_nil, Nat.reduceAdd, Nat.reduceSub, Array.replicate_succ, Array.replicate_zero, List.push_toArray, List.append_toArray, List.nil_append, List.cons_append]
  gi_wp2
  go_ret
  exact ⟨rfl, rfl⟩
theorem written_stops (Bs n₀ : Nat) (s : List UInt8) (hs : s.length ≤ 100000) (zs : List (SLab × Bool)) (hZ : WrS s zs) (w : World) (hBs : Bs < w.heap.size)
    (hc : w.cell? ⟨Bs, 0, none⟩ = some (.string ⟨s.toArray⟩)) :
    SeqStopsK Fence.wide 8 Tryd.prog 53 #[.pointer (some ⟨Bs, 0, none⟩)] wEnc (Below n₀) (fun ys => ys = zs) (fun pre => pre <+: zs) zs.length w := fun l J Jx W hW hJ _ hY h0 =>
  written1_in l Bs n₀ s hs zs hZ J Jx (fun _ _ _ hj hb => abides_below hJ hj hb) hY W ((hW.cell (p := ⟨Bs, 0, none⟩) hBs).trans hc) h0
end Go.Proofs.YtggipcihigddkaaDoor
