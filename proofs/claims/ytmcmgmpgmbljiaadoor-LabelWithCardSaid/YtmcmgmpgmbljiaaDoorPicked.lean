/- label.picked: those labels that have one of the names, or none: the iterator's contract. -/
import Derived.Test.YtmcmgmpgmbljiaaDoorCheck
import Derived.Test.YtmcmgmpgmbljiaaDoorRangeJ
import Derived.Test.YtmcmgmpgmbljiaaDoorHeldD
namespace Go.Proofs.YtmcmgmpgmbljiaaDoor
open Go Go.Proofs Go.RowKit Go.Shelf
set_option maxRecDepth 100000
attribute [local go_sem] Oper.semAt_some
/-- the slice value nv holds the texts ns, in a block below n₀; or there are none -/
def Names (n₀ : Nat) (W : World) (nv : Value) (ns : List (List UInt8)) : Prop :=
  (∃ a c, nv = .slice a 0 c ∧ ns = []) ∨ ∃ b off cap, nv = .slice (some ⟨b, off, none⟩) ns.length cap ∧ b < n₀ ∧ ns.length ≤ 1000 ∧ ∀ j x, ns[j]? = some x → W.cell? ⟨b, off + j, none⟩ = some (.string ⟨x.toArray⟩)
theorem Names.below {n₀ : Nat} {A B : World} (h : Below n₀ A B) {nv : Value} {ns : List (List UInt8)} : Names n₀ A nv ns → Names n₀ B nv ns
  | .inl e => .inl e
  | .inr ⟨b, off, cap, e, hb, hl, hc⟩ => .inr ⟨b, off, cap, e, hb, hl, fun j x hj => (h.cell (p := ⟨b, off + j, none⟩) hb).trans (hc j x hj)⟩
theorem containsS_map (ns : List (List UInt8)) (x : List UInt8) : Lib.containsS (ns.map fun l => (⟨l.toArray⟩ : ByteArray)) ⟨x.toArray⟩ = ns.contains x := by
  rw [Bool.eq_iff_iff, Lib.containsS_iff, List.contains_iff_mem]
  constructor
  · intro h
    obtain ⟨y, hy, e⟩ := List.mem_map.1 h
    have : y = x := by
      have := congrArg (fun b : ByteArray => b.data.toList) e
      simpa using this
    rw [← this]; exact hy
  · intro h; exact List.mem_map.2 ⟨x, h, rfl⟩
theorem contains_any (n₀ : Nat) (nv : Value) (ns : List (List UInt8)) (x : List UInt8) (W : World) (h : Names n₀ W nv ns) :
    Calls Tryd.prog 62 #[nv, .string ⟨x.toArray⟩] W fun e w' => e = .returned (.bool (ns.contains x)) ∧ W = w' := by
  rcases h with ⟨a, c, rfl, rfl⟩ | ⟨b, off, cap, rfl, hb, hl, hc⟩
  · exact (Tryd.slices_Contains_string_empty a c _ W).mono fun e w' ⟨x, y⟩ => ⟨x, y.symm⟩
  · have h := Tryd.slices_Contains_string b off ns.length cap (ns.map fun l => (⟨l.toArray⟩ : ByteArray)) ⟨x.toArray⟩ W (by simp) (by omega) (fun j hj => by
      rw [List.length_map] at hj
      rw [hc j _ (List.getElem?_eq_getElem hj), List.getD_eq_getElem?_getD, List.getElem?_map, List.getElem?_eq_getElem hj]
      rfl)
    rw [List.take_of_length_le (by simp), containsS_map] at h
    exact h.mono fun e w' ⟨x, y⟩ => ⟨x, y.symm⟩
def keepB (ns : List (List UInt8)) (among : Bool) (x : SLab) : Bool := ns.contains x.1.1 == among
theorem filter_snoc (p : SLab → Bool) (l : List SLab) (x : SLab) : (l ++ [x]).filter p = if p x = true then l.filter p ++ [x] else l.filter p := by
  rw [List.filter_append]
  by_cases h : p x = true
  · rw [if_pos h]; simp [h]
  · rw [if_neg h]; simp [h]
theorem own_later {β : Type} {B B' : Nat} {J : β → World → Prop} (h : OwnFrom B J) (hB : B ≤ B') : OwnFrom B' J := fun s W W' row hs hg hr => h s W W' row hs hg (fun r e => ⟨Nat.le_trans hB (hr r e).1, (hr r e).2⟩)
theorem own_map {α β : Type} {B : Nat} {J : β → World → Prop} (f : α → β) (h : OwnFrom B J) : OwnFrom B (fun s W => J (f s) W) := fun s W W' row hs hg hr => h (f s) W W' row hs hg hr
set_option maxHeartbeats 8000000 in
theorem picked_stops (Bs Bn Ba n₀ : Nat) (sv nv : Value) (among : Bool) (ns : List (List UInt8)) (zs : List SLab) (hreach : zs.length ≤ 1000000) (w : World) (hn₀ : n₀ ≤ w.heap.size) (h1 : Bs < n₀) (h2 : Bn < n₀) (h3 : Ba < n₀)
    (hs : w.cell? ⟨Bs, 0, none⟩ = some sv) (hn : w.cell? ⟨Bn, 0, none⟩ = some nv) (ha : w.cell? ⟨Ba, 0, none⟩ = some (.bool among)) (hL : Labs n₀ w sv zs) (hN : Names n₀ w nv ns) :
    SeqStopsJ 55 Fence.wide 8 Tryd.prog 61 #[.pointer (some ⟨Bs, 0, none⟩), .pointer (some ⟨Bn, 0, none⟩), .pointer (some ⟨Ba, 0, none⟩)] (fun x : SLab => #[labV x.1]) n₀ (fun ys => ys = zs.filter (keepB ns among)) (fun pre => pre <+: zs.filter (keepB ns among)) zs.length w := by
  intro l J Jx W hW hJ hJx hY h0
  have hsz0 : n₀ ≤ W.heap.size := Nat.le_trans hn₀ hW.size
  have hw0 : Below n₀ w W := hW.mono hn₀
  have hs := (hw0.cell (p := ⟨Bs, 0, none⟩) h1).trans hs
  have hn := (hw0.cell (p := ⟨Bn, 0, none⟩) h2).trans hn
  have ha := (hw0.cell (p := ⟨Ba, 0, none⟩) h3).trans ha
  have hL := hL.below hw0
  have hN := hN.below hw0
  clear hw0 hW
  refine callsIn_of_wp_marks Tryd.func61 rfl trivial ?_ rfl
  simp only [Tryd.ntmps61, List.size_toArray, List.length_cons, List.length_nil, Nat.reduceAdd, Nat.reduceSub, Array.replicate_succ, Array.replicate_zero, List.push_toArray, List.append_toArray, List.nil_append, List.cons_append]
  have hsh : ∃ a len cap, sv = .slice a len cap := by
    rcases hL with ⟨⟨_, _, rfl⟩, _⟩ | ⟨b, off, cap, rfl, _⟩
    · exact ⟨_, _, _, rfl⟩
    · exact ⟨_, _, _, rfl⟩
  obtain ⟨a, len, cap, rfl⟩ := hsh
  have H0 := Lib.hid h0
  have HY := Lib.hid hY
  clear h0 hY
  have ba : Below n₀ W (W.alloc (.cells #[.func (.yield l) #[] #[]] 86)) := (Below.refl n₀ W).alloc hsz0 _
  have hs1 := (ba.cell (p := ⟨Bs, 0, none⟩) h1).trans hs
  clear ba
  gi_wp2
  refine ⟨trivial, (values_in Fence.wide 7 trivial rfl _ _ _ _).mono ?_⟩
  rintro e w1 ⟨rfl, rfl⟩
  gi_wp2
  obtain ⟨W0, hW0⟩ : ∃ W0, ((W.alloc (.cells #[.func (.yield l) #[] #[]] 86)).alloc (.cells #[.slice a len cap] 23)) = W0 := ⟨_, rfl⟩
  have hlp : Below W.heap.size W W0 := by rw [← hW0]; go_grown
  have hsz : W0.heap.size = W.heap.size + 2 := by rw [← hW0]; simp
  have by0 : Boxed W0 W.heap.size 86 (.func (.yield l) #[] #[]) := by
    rw [← hW0]
    exact (Boxed.new W 86 (.func (.yield l) #[] #[])).alloc _
  have bs0 : W0.cell? ⟨W.heap.size + 1, 0, none⟩ = some (.slice a len cap) := by
    rw [← hW0]
    have h := Boxed.new (W.alloc (.cells #[.func (.yield l) #[] #[]] 86)) 23 (.slice a len cap)
    rw [World.size_alloc] at h
    exact h.cell
  have hj0 : J [] W0 := by rw [← hW0]; exact hJ.alloc _ (hJ.alloc _ H0.out)
  have h00 : Below n₀ W W0 := hlp.mono hsz0
  have hL0 := hL.below h00
  have hN0 := hN.below h00
  have hn0 := (h00.cell (p := ⟨Bn, 0, none⟩) h2).trans hn
  have ha0 := (h00.cell (p := ⟨Ba, 0, none⟩) h3).trans ha
  rw [hW0]
  clear hs1 hs hn ha hL hN H0 hW0
  refine wpIn_rangeFunc_ownH (F := Fence.wide) (n := 8) rfl (by omega) (gf := 54) (lb := #[.pointer (some ⟨W.heap.size + 1, 0, none⟩)]) rfl trivial (enters_of Tryd.func54 (by kernel_rfl) rfl)
    (encs := fun x => #[labV x.1]) (Kp := Below n₀) (values_stops Fence.wide (8 - 1) trivial rfl (by omega) (W.heap.size + 1) n₀ (.slice a len cap) zs (by omega) W0 (by omega) (by omega) bs0 hL0) belowK_t (belowK_b (by omega)) (Below.refl _ _) (fun _ => rfl)
    (fun pre V => J (pre.filter (keepB ns among)) V ∧ Boxed V W.heap.size 86 (.func (.yield l) #[] #[]) ∧ Below n₀ W0 V)
    (fun c pre V => c = .ret ∧ Jx (pre.filter (keepB ns among)) V)
    (OwnFrom.and (own_map _ (own_later hJ (by omega))) (OwnFrom.and (Own.from (boxed_own W.heap.size 86 (fun _ => .func (.yield l) #[] #[])) _) (ownFrom_below (by omega) (by omega))))
    (fun c => OwnFrom.and (ownFrom_pure _ _) (own_map _ (own_later hJx (by omega))))
    ⟨hj0, by0, Below.refl _ _⟩
    (fun x a' V => ∃ Bx, W.heap.size + 1 < Bx ∧ Blk V Bx #[.string ⟨x.1.1.toArray⟩, .string ⟨x.1.2.toArray⟩] 55 ∧ a' = { tmps := #[.func (.yield l) #[] #[], .pointer (some ⟨Bs, 0, none⟩), .pointer (some ⟨Bn, 0, none⟩), .pointer (some ⟨Ba, 0, none⟩), .pointer (some ⟨W.heap.size, 0, none⟩), .pointer (some ⟨Bx, 0, none⟩), .slice a len cap, .func (.func 54) #[] #[.pointer (some ⟨W.heap.size + 1, 0, none⟩)], .agg #[.string ⟨x.1.1.toArray⟩, .string ⟨x.1.2.toArray⟩], undef, undef, undef, undef, undef, undef, undef, undef, undef, undef, undef, undef], defers := [] })
    (fun x a' => ?ax) ?assign ?body ?done ?stop
  case ax => exact fun s X Y row ⟨Bx, q1, q2, q3⟩ hg hr => ⟨Bx, q1, (blk_own (β := Unit) Bx _ _).from _ () X Y row q2 hg hr, q3⟩
  case assign =>
    rintro l' pre x V K ⟨hj, hy, hB⟩ hK
    simp only [labV]
    have hVs : W0.heap.size ≤ V.heap.size := hB.size
    have HJ := Lib.hid hj
    clear hj
    gi_wp2
    exact hK _ _ ((KeepsOthers.alloc _ _).from _) ((Below.refl _ V).alloc (by omega) _) ⟨hJ.alloc _ HJ.out, hy.alloc _, hB.alloc (by omega) _⟩ ⟨V.heap.size, by omega, heap_alloc_new V _, rfl⟩
  case body =>
    rintro l' pre x a' V hl ⟨r, hr⟩ ⟨hj, hy, hB⟩ ⟨Bx, hBx, bX, rfl⟩ hlen
    have hVs : W0.heap.size ≤ V.heap.size := hB.size
    have hnV := (hB.cell (p := ⟨Bn, 0, none⟩) h2).trans hn0
    have haV := (hB.cell (p := ⟨Ba, 0, none⟩) h3).trans ha0
    have hNV := hN0.below hB
    have hfl := filter_snoc (keepB ns among) pre x
    obtain ⟨⟨xn, xv⟩, hx⟩ := x
    dsimp only at bX
    have hk : keepB ns among ⟨(xn, xv), hx⟩ = (ns.contains xn == among) := rfl
    have HCt := Lib.hid (fun W' (h : Below n₀ V W') => contains_any n₀ nv ns xn W' (hNV.below h))
    rw [hk] at hfl
    generalize ns.contains xn = c at *
    have cx0 := blk_cell (j := 0) bX rfl
    have cx1 := blk_cell (j := 1) bX rfl
    have cy := hy.cell
    have HJ := Lib.hid hj
    clear hj hNV hk
    have hbd : Below V.heap.size V V.drew := (Below.refl _ V).drew
    have hjd : J (pre.filter (keepB ns among)) V.drew := hJ _ V V.drew none HJ.out (grown_below hbd) (fun r e => by cases e)
    have hyd := boxed_below hy hbd
    have HJD := Lib.hid hjd
    clear hjd HJ
    cases hg : (c == among)
    · rw [hg, if_neg (by simp)] at hfl
      have HF := Lib.hid hfl
      clear hfl
      gi_wp2
      refine region_anyM (S := fun u => u = V.drew) 9 (by kernel_rfl) (fun hS => ?_) rfl
      refine' anyM_take (i := 0) (oi := ?oi0a) (v := ?v0a) [0, 3, 5, 6, 9] (by kernel_rfl) ?hi0a (by kernel_rfl) (by kernel_rfl) (by kernel_rfl) (by kernel_rfl) (fun _ _ _ h => h) ?hy0a ?hab0a hS ?rest0a
      case hi0a =>
        simp only [List.getElem?_toArray, List.getElem?_cons_zero]
        exact rfl
      case hy0a =>
        refine Or.inl ⟨by rfl, ?_⟩
        intro w hSw
        (try dsimp only at hSw)
        subst hSw
        go_simp
        (try with_reducible rfl)
      case hab0a => exact fun _ => rfl
      (try simp only [Act.put, List.setIfInBounds_toArray, List.set_cons_zero, List.set_cons_succ])
      refine' anyM_take (i := 1) (oi := ?oi1a) (v := ?v1a) [1, 2, 3, 5, 6, 9] (by kernel_rfl) ?hi1a (by kernel_rfl) (by kernel_rfl) (by kernel_rfl) (by kernel_rfl) (fun _ _ _ h => h) ?hy1a ?hab1a hS ?rest1a
      case hi1a =>
        simp only [List.getElem?_toArray, List.getElem?_cons_succ, List.getElem?_cons_zero]
        exact rfl
      case hy1a =>
        refine Or.inl ⟨by rfl, ?_⟩
        intro w hSw
        (try dsimp only at hSw)
        subst hSw
        go_simp
        (try with_reducible rfl)
      case hab1a => exact fun _ => rfl
      (try simp only [Act.put, List.setIfInBounds_toArray, List.set_cons_zero, List.set_cons_succ])
      refine' anyM_take (i := 2) (oi := ?oi2a) (v := ?v2a) [2, 3, 5, 6, 9] (by kernel_rfl) ?hi2a (by kernel_rfl) (by kernel_rfl) (by kernel_rfl) (by kernel_rfl) (fun _ _ _ h => h) ?hy2a ?hab2a hS ?rest2a
      case hi2a =>
        simp only [List.getElem?_toArray, List.getElem?_cons_succ, List.getElem?_cons_zero]
        exact rfl
      case hy2a =>
        refine Or.inl ⟨by rfl, ?_⟩
        intro w hSw
        (try dsimp only at hSw)
        subst hSw
        go_simp
        (try with_reducible rfl)
      case hab2a => exact fun _ => rfl
      (try simp only [Act.put, List.setIfInBounds_toArray, List.set_cons_zero, List.set_cons_succ])
      refine' anyM_take (i := 4) (oi := ?oi4a) (v := ?v4a) [4, 5, 6, 9] (by kernel_rfl) ?hi4a (by kernel_rfl) (by kernel_rfl) (by kernel_rfl) (by kernel_rfl) (fun _ _ _ h => h) ?hy4a ?hab4a hS ?rest4a
      case hi4a =>
        simp only [List.getElem?_toArray, List.getElem?_cons_succ, List.getElem?_cons_zero]
        exact rfl
      case hy4a =>
        refine Or.inl ⟨by rfl, ?_⟩
        intro w hSw
        (try dsimp only at hSw)
        subst hSw
        go_simp
        (try with_reducible rfl)
      case hab4a => exact fun _ => rfl
      (try simp only [Act.put, List.setIfInBounds_toArray, List.set_cons_zero, List.set_cons_succ])
      refine' anyM_only (i := 3) (o := ?oo3a) (by kernel_rfl) (by decide) ?ho3a ?hw3a (fun K hK => ?st3a)
      case ho3a =>
        simp only [List.getElem?_toArray, List.getElem?_cons_succ, List.getElem?_cons_zero]
        exact rfl
      case hw3a => rfl
      go_simp
      refine ⟨trivial, ?_⟩
      gi_at_call 62
      refine (CallsIn.inRound l' (callsIn_wide.2 (HCt.out _ (by go_grown)))).mono ?_
      rintro e w' ⟨rfl, rfl⟩
      go_simp
      refine hK _ _ rfl ?_
      clear hK K
      (try simp only [Act.put, List.setIfInBounds_toArray, List.set_cons_zero, List.set_cons_succ])
      refine' anyM_take (i := 5) (oi := ?oi5a) (v := ?v5a) [5, 6, 9] (by kernel_rfl) ?hi5a (by kernel_rfl) (by kernel_rfl) (by kernel_rfl) (by kernel_rfl) (fun _ _ _ h => h) ?hy5a ?hab5a hS ?rest5a
      case hi5a =>
        simp only [List.getElem?_toArray, List.getElem?_cons_succ, List.getElem?_cons_zero]
        exact rfl
      case hy5a =>
        refine Or.inl ⟨by rfl, ?_⟩
        intro w hSw
        (try dsimp only at hSw)
        subst hSw
        go_simp
        (try with_reducible rfl)
      case hab5a => exact fun _ => rfl
      (try simp only [Act.put, List.setIfInBounds_toArray, List.set_cons_zero, List.set_cons_succ])
      refine' anyM_take (i := 6) (oi := ?oi6a) (v := ?v6a) [6, 9] (by kernel_rfl) ?hi6a (by kernel_rfl) (by kernel_rfl) (by kernel_rfl) (by kernel_rfl) (fun _ _ _ h => h) ?hy6a ?hab6a hS ?rest6a
      case hi6a =>
        simp only [List.getElem?_toArray, List.getElem?_cons_succ, List.getElem?_cons_zero]
        exact rfl
      case hy6a =>
        refine Or.inl ⟨by rfl, ?_⟩
        intro w hSw
        (try dsimp only at hSw)
        subst hSw
        go_simp
        (try with_reducible rfl)
      case hab6a => exact fun _ => rfl
      (try simp only [Act.put, List.setIfInBounds_toArray, List.set_cons_zero, List.set_cons_succ])
      refine' anyM_take (i := 7) (oi := ?oi7a) (v := undef) [7, 9] (by kernel_rfl) ?hi7a (by kernel_rfl) (by kernel_rfl) (by kernel_rfl) (by kernel_rfl) (fun _ _ _ h => h) ?hy7a ?hab7a hS ?rest7a
      case hi7a =>
        simp only [List.getElem?_toArray, List.getElem?_cons_succ, List.getElem?_cons_zero]
        exact rfl
      case hy7a => exact Or.inr ⟨by rfl, rfl⟩
      case hab7a => exact fun _ => rfl
      (try simp only [Act.put, List.setIfInBounds_toArray, List.set_cons_zero, List.set_cons_succ])
      refine' anyM_take (i := 8) (oi := ?oi8a) (v := undef) [8, 9] (by kernel_rfl) ?hi8a (by kernel_rfl) (by kernel_rfl) (by kernel_rfl) (by kernel_rfl) (fun _ _ _ h => h) ?hy8a ?hab8a hS ?rest8a
      case hi8a =>
        simp only [List.getElem?_toArray, List.getElem?_cons_succ, List.getElem?_cons_zero]
        exact rfl
      case hy8a => exact Or.inr ⟨by rfl, rfl⟩
      case hab8a => exact fun _ => rfl
      (try simp only [Act.put, List.setIfInBounds_toArray, List.set_cons_zero, List.set_cons_succ])
      refine' anyM_past (o := ?oo9a) (by kernel_rfl) ?ho9a ?hw9a ?hb9a ?st9a
      case ho9a =>
        simp only [List.getElem?_toArray, List.getElem?_cons_succ, List.getElem?_cons_zero]
        exact rfl
      case hw9a => rfl
      case hb9a => rfl
      (try simp only [Act.put, List.setIfInBounds_toArray, List.set_cons_zero, List.set_cons_succ])
      refine' anyIn_skip (i := 10) (o := ?oo10a) (by kernel_rfl) ?ho10a ?hw10a ?hb10a ?st10a
      case ho10a =>
        simp only [List.getElem?_toArray, List.getElem?_cons_succ, List.getElem?_cons_zero]
        exact rfl
      case hw10a => rfl
      case hb10a => rfl
      (try simp only [Act.put, List.setIfInBounds_toArray, List.set_cons_zero, List.set_cons_succ])
      refine' anyIn_only (i := 11) (o := ?oo11a) (by kernel_rfl) ?ho11a ?hw11a (fun K hK => ?st11a)
      case ho11a =>
        simp only [List.getElem?_toArray, List.getElem?_cons_succ, List.getElem?_cons_zero]
        exact rfl
      case hw11a => rfl
      go_simp
      refine hK _ _ ?_
      refine anyIn_done (by kernel_rfl) ?_ _
      gi_wp2
      exact ⟨(KeepsT.below (T := 0) hbd).from, hbd.mono (by omega), by rw [HF.out]; exact HJD.out, hyd, hB.drew⟩
    · rw [hg, if_pos rfl] at hfl
      have HF := Lib.hid hfl
      clear hfl
      have hle : (pre.filter (keepB ns among)).length < zs.length := Nat.lt_of_le_of_lt (List.length_filter_le _ _) hlen
      obtain ⟨fn, tmps, assign, body, hy', hR⟩ := yield_inRound l' (yield_depth (m' := 5) (HY.out (pre.filter (keepB ns among)) ⟨(xn, xv), hx⟩ V.drew HJD.out hle))
      dsimp only [labV] at hy'
      gi_wp2
      refine region_anyM (S := fun u => u = V.drew) 9 (by kernel_rfl) (fun hS => ?_) rfl
      refine' anyM_take (i := 0) (oi := ?oi0b) (v := ?v0b) [0, 3, 5, 6, 9] (by kernel_rfl) ?hi0b (by kernel_rfl) (by kernel_rfl) (by kernel_rfl) (by kernel_rfl) (fun _ _ _ h => h) ?hy0b ?hab0b hS ?rest0b
      case hi0b =>
        simp only [List.getElem?_toArray, List.getElem?_cons_zero]
        exact rfl
      case hy0b =>
        refine Or.inl ⟨by rfl, ?_⟩
        intro w hSw
        (try dsimp only at hSw)
        subst hSw
        go_simp
        (try with_reducible rfl)
      case hab0b => exact fun _ => rfl
      (try simp only [Act.put, List.setIfInBounds_toArray, List.set_cons_zero, List.set_cons_succ])
      refine' anyM_take (i := 1) (oi := ?oi1b) (v := ?v1b) [1, 2, 3, 5, 6, 9] (by kernel_rfl) ?hi1b (by kernel_rfl) (by kernel_rfl) (by kernel_rfl) (by kernel_rfl) (fun _ _ _ h => h) ?hy1b ?hab1b hS ?rest1b
      case hi1b =>
        simp only [List.getElem?_toArray, List.getElem?_cons_succ, List.getElem?_cons_zero]
        exact rfl
      case hy1b =>
        refine Or.inl ⟨by rfl, ?_⟩
        intro w hSw
        (try dsimp only at hSw)
        subst hSw
        go_simp
        (try with_reducible rfl)
      case hab1b => exact fun _ => rfl
      (try simp only [Act.put, List.setIfInBounds_toArray, List.set_cons_zero, List.set_cons_succ])
      refine' anyM_take (i := 2) (oi := ?oi2b) (v := ?v2b) [2, 3, 5, 6, 9] (by kernel_rfl) ?hi2b (by kernel_rfl) (by kernel_rfl) (by kernel_rfl) (by kernel_rfl) (fun _ _ _ h => h) ?hy2b ?hab2b hS ?rest2b
      case hi2b =>
        simp only [List.getElem?_toArray, List.getElem?_cons_succ, List.getElem?_cons_zero]
        exact rfl
      case hy2b =>
        refine Or.inl ⟨by rfl, ?_⟩
        intro w hSw
        (try dsimp only at hSw)
        subst hSw
        go_simp
        (try with_reducible rfl)
      case hab2b => exact fun _ => rfl
      (try simp only [Act.put, List.setIfInBounds_toArray, List.set_cons_zero, List.set_cons_succ])
      refine' anyM_take (i := 4) (oi := ?oi4b) (v := ?v4b) [4, 5, 6, 9] (by kernel_rfl) ?hi4b (by kernel_rfl) (by kernel_rfl) (by kernel_rfl) (by kernel_rfl) (fun _ _ _ h => h) ?hy4b ?hab4b hS ?rest4b
      case hi4b =>
        simp only [List.getElem?_toArray, List.getElem?_cons_succ, List.getElem?_cons_zero]
        exact rfl
      case hy4b =>
        refine Or.inl ⟨by rfl, ?_⟩
        intro w hSw
        (try dsimp only at hSw)
        subst hSw
        go_simp
        (try with_reducible rfl)
      case hab4b => exact fun _ => rfl
      (try simp only [Act.put, List.setIfInBounds_toArray, List.set_cons_zero, List.set_cons_succ])
      refine' anyM_only (i := 3) (o := ?oo3b) (by kernel_rfl) (by decide) ?ho3b ?hw3b (fun K hK => ?st3b)
      case ho3b =>
        simp only [List.getElem?_toArray, List.getElem?_cons_succ, List.getElem?_cons_zero]
        exact rfl
      case hw3b => rfl
      go_simp
      refine ⟨trivial, ?_⟩
      gi_at_call 62
      refine (CallsIn.inRound l' (callsIn_wide.2 (HCt.out _ (by go_grown)))).mono ?_
      rintro e w' ⟨rfl, rfl⟩
      go_simp
      refine hK _ _ rfl ?_
      clear hK K
      (try simp only [Act.put, List.setIfInBounds_toArray, List.set_cons_zero, List.set_cons_succ])
      refine' anyM_take (i := 5) (oi := ?oi5b) (v := ?v5b) [5, 6, 9] (by kernel_rfl) ?hi5b (by kernel_rfl) (by kernel_rfl) (by kernel_rfl) (by kernel_rfl) (fun _ _ _ h => h) ?hy5b ?hab5b hS ?rest5b
      case hi5b =>
        simp only [List.getElem?_toArray, List.getElem?_cons_succ, List.getElem?_cons_zero]
        exact rfl
      case hy5b =>
        refine Or.inl ⟨by rfl, ?_⟩
        intro w hSw
        (try dsimp only at hSw)
        subst hSw
        go_simp
        (try with_reducible rfl)
      case hab5b => exact fun _ => rfl
      (try simp only [Act.put, List.setIfInBounds_toArray, List.set_cons_zero, List.set_cons_succ])
      refine' anyM_take (i := 6) (oi := ?oi6b) (v := ?v6b) [6, 9] (by kernel_rfl) ?hi6b (by kernel_rfl) (by kernel_rfl) (by kernel_rfl) (by kernel_rfl) (fun _ _ _ h => h) ?hy6b ?hab6b hS ?rest6b
      case hi6b =>
        simp only [List.getElem?_toArray, List.getElem?_cons_succ, List.getElem?_cons_zero]
        exact rfl
      case hy6b =>
        refine Or.inl ⟨by rfl, ?_⟩
        intro w hSw
        (try dsimp only at hSw)
        subst hSw
        go_simp
        (try with_reducible rfl)
      case hab6b => exact fun _ => rfl
      (try simp only [Act.put, List.setIfInBounds_toArray, List.set_cons_zero, List.set_cons_succ])
      refine' anyM_take (i := 7) (oi := ?oi7b) (v := ?v7b) [7, 9] (by kernel_rfl) ?hi7b (by kernel_rfl) (by kernel_rfl) (by kernel_rfl) (by kernel_rfl) (fun _ _ _ h => h) ?hy7b ?hab7b hS ?rest7b
      case hi7b =>
        simp only [List.getElem?_toArray, List.getElem?_cons_succ, List.getElem?_cons_zero]
        exact rfl
      case hy7b =>
        refine Or.inl ⟨by rfl, ?_⟩
        intro w hSw
        (try dsimp only at hSw)
        subst hSw
        go_simp
        (try with_reducible rfl)
      case hab7b => exact fun _ => rfl
      (try simp only [Act.put, List.setIfInBounds_toArray, List.set_cons_zero, List.set_cons_succ])
      refine' anyM_take (i := 8) (oi := ?oi8b) (v := ?v8b) [8, 9] (by kernel_rfl) ?hi8b (by kernel_rfl) (by kernel_rfl) (by kernel_rfl) (by kernel_rfl) (fun _ _ _ h => h) ?hy8b ?hab8b hS ?rest8b
      case hi8b =>
        simp only [List.getElem?_toArray, List.getElem?_cons_succ, List.getElem?_cons_zero]
        exact rfl
      case hy8b =>
        refine Or.inl ⟨by rfl, ?_⟩
        intro w hSw
        (try dsimp only at hSw)
        subst hSw
        go_simp
        (try with_reducible rfl)
      case hab8b => exact fun _ => rfl
      (try simp only [Act.put, List.setIfInBounds_toArray, List.set_cons_zero, List.set_cons_succ])
      refine' anyM_last (o := ?oo9b) (by kernel_rfl) ?ho9b ?hw9b (fun K hK => ?st9b)
      case ho9b =>
        simp only [List.getElem?_toArray, List.getElem?_cons_succ, List.getElem?_cons_zero]
        exact rfl
      case hw9b => rfl
      go_simp
      refine hR.mono ?_
      clear hR hy'
      rintro e W3 (⟨rfl, hJ3, hb3, hk3⟩ | ⟨rfl, hJx3, hk3⟩)
      · have HJ3 := Lib.hid hJ3
        clear hJ3
        have hk4 := ((KeepsT.below (T := 55) (B := W.heap.size + 2) hbd).trans (hk3.mono (by omega))).from
        have hy3 : Boxed W3 W.heap.size 86 (.func (.yield l) #[] #[]) := hk3.same _ _ (Nat.le_refl _) hyd (fun c fz e => by cases e)
        have hb4 : Below n₀ V W3 := (hbd.mono (by omega)).trans hb3
        clear hk3 hb3
        go_simp
        refine hK _ _ ?_
        clear hK K
        (try simp only [Act.put, List.setIfInBounds_toArray, List.set_cons_zero, List.set_cons_succ])
        refine' anyIn_only (i := 10) (o := ?oo10c) (by kernel_rfl) ?ho10c ?hw10c (fun K hK => ?st10c)
        case ho10c =>
          simp only [List.getElem?_toArray, List.getElem?_cons_succ, List.getElem?_cons_zero]
          exact rfl
        case hw10c => rfl
        go_simp
        refine hK _ _ ?_
        clear hK K
        (try simp only [Act.put, List.setIfInBounds_toArray, List.set_cons_zero, List.set_cons_succ])
        refine' anyIn_only (i := 11) (o := ?oo11c) (by kernel_rfl) ?ho11c ?hw11c (fun K hK => ?st11c)
        case ho11c =>
          simp only [List.getElem?_toArray, List.getElem?_cons_succ, List.getElem?_cons_zero]
          exact rfl
        case hw11c => rfl
        go_simp
        refine hK _ _ ?_
        clear hK K
        refine anyIn_done (by kernel_rfl) ?_ _
        gi_wp2
        exact ⟨hk4, hb4, by rw [HF.out]; exact HJ3.out, hy3, hB.trans hb4⟩
      · have HJ3 := Lib.hid hJx3
        clear hJx3
        have hk4 := ((KeepsT.below (T := 55) (B := W.heap.size + 2) hbd).trans (hk3.mono (by omega))).from
        clear hk3
        go_simp
        refine hK _ _ ?_
        clear hK K
        (try simp only [Act.put, List.setIfInBounds_toArray, List.set_cons_zero, List.set_cons_succ])
        refine' anyIn_only (i := 10) (o := ?oo10d) (by kernel_rfl) ?ho10d ?hw10d (fun K hK => ?st10d)
        case ho10d =>
          simp only [List.getElem?_toArray, List.getElem?_cons_succ, List.getElem?_cons_zero]
          exact rfl
        case hw10d => rfl
        go_simp
        refine hK _ _ ?_
        clear hK K
        (try simp only [Act.put, List.setIfInBounds_toArray, List.set_cons_zero, List.set_cons_succ])
        refine' anyIn_only (i := 11) (o := ?oo11d) (by kernel_rfl) ?ho11d ?hw11d (fun K hK => ?st11d)
        case ho11d =>
          simp only [List.getElem?_toArray, List.getElem?_cons_succ, List.getElem?_cons_zero]
          exact rfl
        case hw11d => rfl
        go_simp
        refine hK _ _ ?_
        clear hK K
        refine anyIn_done (by kernel_rfl) ?_ _
        gi_wp2
        exact ⟨hk4, rfl, by rw [HF.out]; exact HJ3.out⟩
  case done =>
    rintro D ys V hD rfl ⟨hj, hy, hB⟩ hK
    have HJ := Lib.hid hj
    clear hj
    gi_wp2
    refine ⟨by simp, .inl ⟨_, _, rfl, run_takeDeferred hK, ?_⟩⟩
    exact ⟨_, results_none rfl _ _ _, ⟨_, rfl⟩, .inl ⟨_, rfl, hJ.putObj _ HJ.out (by omega) hK rfl⟩⟩
  case stop =>
    rintro D c pre V hD ⟨t, rfl⟩ ⟨rfl, hj⟩ hK
    have HJ := Lib.hid hj
    clear hj
    gi_wp2
    refine ⟨by simp, .inl ⟨_, _, rfl, run_takeDeferred hK, ?_⟩⟩
    exact ⟨_, results_none rfl _ _ _, ⟨_, rfl⟩, .inr ⟨_, ⟨_, (List.filter_append ..).symm⟩, hJx.putObj _ HJ.out (by omega) hK rfl⟩⟩
end Go.Proofs.YtmcmgmpgmbljiaaDoor
