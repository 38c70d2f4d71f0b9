/- words.TakeQuoted: a text between two signs, at every text. -/
import Derived.Test.YtmcmgmpgmbljiaaDoorTxt
namespace Go.Proofs.YtmcmgmpgmbljiaaDoor
open Go Go.Proofs Go.RowKit Go.Shelf
set_option maxRecDepth 100000
def tE : List UInt8 → List UInt8 → Option (List UInt8 × List UInt8)
  | _, [] => none
  | S, [c] => if c.toNat = 34 then some (S, []) else none
  | S, c :: d :: t => if c.toNat = 34 then some (S, d :: t) else if c.toNat = 92 then (if d.toNat = 34 ∨ d.toNat = 92 then tE (S ++ [d]) t else none) else tE (S ++ [c]) (d :: t)
def tEV : Option (List UInt8 × List UInt8) → Value
  | none => .tuple #[.string ⟨#[]⟩, .string ⟨#[]⟩, .bool false]
  | some (a, b) => .tuple #[.string ⟨a.toArray⟩, .string ⟨b.toArray⟩, .bool true]
theorem bytes_mk (s : ByteArray) (l : List UInt8) (h : s.data.toList = l) : s = ⟨l.toArray⟩ := by
  cases s with
  | mk d => simp at h; subst h; rfl
theorem EW.drew {w W : World} {base : Nat} {v : Value} {S : List UInt8} (h : EW w base v S W) : EW w base v S W.drew := ⟨h.own, h.bel.drew, h.oth.drew, h.ge⟩
theorem tE_nil (S : List UInt8) : tE S [] = none := by unfold tE; rfl
theorem tE_q (S t : List UInt8) (c : UInt8) (h : c.toNat = 34) : tE S (c :: t) = some (S, t) := by
  cases t with
  | nil => unfold tE; rw [if_pos h]
  | cons d t => unfold tE; rw [if_pos h]
theorem tE_c (S t : List UInt8) (c : UInt8) (h1 : ¬ c.toNat = 34) (h2 : ¬ c.toNat = 92) : tE S (c :: t) = tE (S ++ [c]) t := by
  cases t with
  | nil => rw [tE_nil]; unfold tE; rw [if_neg h1]
  | cons d t =>
    conv => lhs; unfold tE
    rw [if_neg h1, if_neg h2]
theorem tE_b0 (S : List UInt8) (c : UInt8) (h2 : c.toNat = 92) : tE S [c] = none := by
  unfold tE; rw [if_neg (by omega)]
theorem tE_b1 (S t : List UInt8) (c d : UInt8) (h2 : c.toNat = 92) (h : d.toNat = 34 ∨ d.toNat = 92) : tE S (c :: d :: t) = tE (S ++ [d]) t := by
  conv => lhs; unfold tE
  rw [if_neg (by omega), if_pos h2, if_pos h]
theorem tE_b2 (S t : List UInt8) (c d : UInt8) (h2 : c.toNat = 92) (h : ¬ (d.toNat = 34 ∨ d.toNat = 92)) : tE S (c :: d :: t) = none := by
  unfold tE
  rw [if_neg (by omega), if_pos h2, if_neg h]
def tqR (l : List UInt8) : Option (List UInt8 × List UInt8) := if Lib.hasPrefix l [34] = true then tE [] (Lib.trimPrefix l [34]) else none
theorem cutQ_any (s : List UInt8) (W : World) : Calls Tryd.prog 74 #[.string ⟨s.toArray⟩, .string ⟨#[34]⟩] W fun e w' => e = .returned (.tuple #[.string ⟨(Lib.trimPrefix s [34]).toArray⟩, .bool (Lib.hasPrefix s [34])]) ∧ W = w' :=
  (Tryd.strings_CutPrefix ⟨s.toArray⟩ ⟨#[34]⟩ W).mono (fun _ _ ⟨x, y⟩ => ⟨x, y.symm⟩)
theorem tp_len1 (s p : List UInt8) : (Lib.trimPrefix s p).length ≤ s.length := by
  unfold Lib.trimPrefix; split
  · rw [List.length_drop]; omega
  · exact Nat.le_refl _
set_option maxHeartbeats 4000000 in
theorem takeQ_any (l0 : List UInt8) (hl0 : l0.length ≤ 100000) (w : World) :
    Calls Tryd.prog 86 #[.string ⟨l0.toArray⟩] w fun e w' => e = .returned (tEV (tqR l0)) ∧ Below w.heap.size w w' := by
  obtain ⟨i0, hi, hz0, hz1, hz2⟩ := info_parts info_u8
  have HI := Lib.hid hi
  have HZ := Lib.hid hz0
  have HZ1 := Lib.hid hz1
  have HZ2 := Lib.hid hz2
  have hl := Nat.le_trans (tp_len1 l0 [34]) hl0
  have HC := cutQ_any l0 w
  have TQ : Hid (tqR l0 = if Lib.hasPrefix l0 [34] = true then tE [] (Lib.trimPrefix l0 [34]) else none) := by unfold Hid tqR; rfl
  generalize Lib.trimPrefix l0 [34] = l at *
  generalize hq : Lib.hasPrefix l0 [34] = b at *
  clear hi hz0 hz1 hz2 hq
  obtain ⟨s, hs⟩ : ∃ s : ByteArray, s = ⟨l.toArray⟩ := ⟨_, rfl⟩
  rw [← hs] at HC
  have hud : s.data.toList = l := by rw [hs]
  have hsz : s.size = l.length := by rw [Lib.size_eq, hud]
  have HU := Lib.hid hud
  have HC := Lib.hid HC
  clear hud hs
  cases b
  · have TQ2 := Lib.hid (show tqR l0 = none by have := TQ.out; simpa using this)
    clear TQ
    go_enter Tryd.func86, Tryd.ntmps86
    go_wp2_with fail
    refine (HC.out).mono ?_
    rintro e w1 ⟨rfl, rfl⟩
    go_wp2
    go_ret3
    exact ⟨by rw [TQ2.out]; rfl, Below.refl _ _⟩
  have TQ2 := Lib.hid (show tqR l0 = tE [] l by have := TQ.out; simpa using this)
  clear TQ
  rw [TQ2.out]
  clear TQ2
  go_enter Tryd.func86, Tryd.ntmps86
  go_wp2_with fail
  refine (HC.out).mono ?_
  rintro e w1 ⟨rfl, rfl⟩
  clear HC
  go_wp2
  go_loopw [6, 7] (fun v i wr => ∃ (k : Nat) (S : List UInt8), k ≤ l.length ∧ S.length ≤ k ∧ i = .int .i64 (k : Int) ∧ EW w w.heap.size v S wr ∧ tE [] l = tE S (l.drop k)) (fun _ i _ => l.length - (intOf i).toNat)
  case atStart => exact ⟨0, [], Nat.zero_le _, Nat.zero_le _, rfl, ⟨World.ownsRow_nil _ _ _ _, Below.refl _ _, Lib.OthersKept.refl _ _ _, Nat.le_refl _⟩, rfl⟩
  case round =>
    obtain ⟨k, S, hk, hSk, rfl, hE, hT⟩ := hrel
    have E := Lib.hid hE
    have hB0 := hE.bel
    have hO0 := hE.own
    clear hE
    by_cases hlt : k < l.length
    · have hi : k < s.size := by omega
      obtain ⟨c, hc⟩ : ∃ c : UInt8, s[k]'hi = c := ⟨_, rfl⟩
      have hcl : l[k]? = some c := by rw [← HU.out, ← hc]; exact Lib.data_getElem? s k hi
      obtain ⟨hn, he⟩ := List.getElem?_eq_some_iff.1 hcl
      have hdr : l.drop k = c :: l.drop (k + 1) := by rw [List.drop_eq_getElem_cons hn, he]
      rw [hdr] at hT
      have h0 : (0 : Int) ≤ (k : Int) := by omega
      have h1 : (k : Int) < (l.length : Int) := by omega
      have h2 : (k : Int) < (s.size : Int) := by omega
      clear hcl he hdr
      by_cases q : c.toNat = 34
      · rw [tE_q _ _ _ q] at hT
        obtain rfl : c = 34 := UInt8.toNat.inj q
        have hx : s.extract (k + 1) s.size = ⟨(l.drop (k + 1)).toArray⟩ := bytes_mk _ _ (by rw [Lib.extract_to_end, HU.out])
        rw [hsz] at hx
        have X := Lib.hid hx
        have TT := Lib.hid hT
        have hE0 := E.out
        clear hx hT q
        have w1 : IntKind.i64.wrap ((k : Int) + 1) = (k : Int) + 1 := by rw [IntKind.wrap_i64]; omega
        have k2 : (k : Int) + 1 ≤ (l.length : Int) := by omega
        have k3 : (0 : Int) ≤ (k : Int) + 1 := by omega
        go_wp2
        refine wp_region_held_drew (S := fun w' => EW w w.heap.size u6 S w') (by kernel_rfl) ?_ (fun hS => ?_)
        · (try dsimp only)
          (repeat' apply And.intro) <;> first | go_cell | exact hE0.drew
        refine' wpAnyH_take (i := 0) (oi := ?oiT0q) (v := ?vT0q) ?hiT0q (by kernel_rfl) (by kernel_rfl) (by kernel_rfl) ?hQT0q ?hyT0q hS ?restT0q
        case hiT0q =>
          simp only [List.getElem?_toArray, List.getElem?_cons_succ, List.getElem?_cons_zero]
          exact rfl
        case hQT0q => exact fun _ _ _ h => h
        case hyT0q =>
          refine Or.inl ⟨by rfl, ?_⟩
          intro w hSw
          (try dsimp only at hSw)
          go_simp
          (try with_reducible rfl)
        (try simp only [Act.put, List.setIfInBounds_toArray, List.set_cons_zero, List.set_cons_succ])
        refine' wpAnyH_take (i := 1) (oi := ?oiT1q) (v := ?vT1q) ?hiT1q (by kernel_rfl) (by kernel_rfl) (by kernel_rfl) ?hQT1q ?hyT1q hS ?restT1q
        case hiT1q =>
          simp only [List.getElem?_toArray, List.getElem?_cons_succ, List.getElem?_cons_zero]
          exact rfl
        case hQT1q => exact fun _ _ _ h => h
        case hyT1q =>
          refine Or.inl ⟨by rfl, ?_⟩
          intro w hSw
          (try dsimp only at hSw)
          have hC := str_of_row (P := Tryd.prog) (src := 74) (dst := 9) hSw.own Tryd.underlying74 Tryd.underlying5 Tryd.underlying9
          go_simp
          (try with_reducible rfl)
        (try simp only [Act.put, List.setIfInBounds_toArray, List.set_cons_zero, List.set_cons_succ])
        refine' wpAnyH_take (i := 2) (oi := ?oiT2q) (v := ?vT2q) ?hiT2q (by kernel_rfl) (by kernel_rfl) (by kernel_rfl) ?hQT2q ?hyT2q hS ?restT2q
        case hiT2q =>
          simp only [List.getElem?_toArray, List.getElem?_cons_succ, List.getElem?_cons_zero]
          exact rfl
        case hQT2q => exact fun _ _ _ h => h
        case hyT2q =>
          refine Or.inl ⟨by rfl, ?_⟩
          intro w hSw
          (try dsimp only at hSw)
          go_simp
          (try with_reducible rfl)
        (try simp only [Act.put, List.setIfInBounds_toArray, List.set_cons_zero, List.set_cons_succ])
        refine' wpAnyH_take (i := 3) (oi := ?oiT3q) (v := ?vT3q) ?hiT3q (by kernel_rfl) (by kernel_rfl) (by kernel_rfl) ?hQT3q ?hyT3q hS ?restT3q
        case hiT3q =>
          simp only [List.getElem?_toArray, List.getElem?_cons_succ, List.getElem?_cons_zero]
          exact rfl
        case hQT3q => exact fun _ _ _ h => h
        case hyT3q =>
          refine Or.inl ⟨by rfl, ?_⟩
          intro w hSw
          (try dsimp only at hSw)
          go_simp
          (try with_reducible rfl)
        (try simp only [Act.put, List.setIfInBounds_toArray, List.set_cons_zero, List.set_cons_succ])
        refine' wpAnyH_take (i := 4) (oi := ?oiT4q) (v := ?vT4q) ?hiT4q (by kernel_rfl) (by kernel_rfl) (by kernel_rfl) ?hQT4q ?hyT4q hS ?restT4q
        case hiT4q =>
          simp only [List.getElem?_toArray, List.getElem?_cons_succ, List.getElem?_cons_zero]
          exact rfl
        case hQT4q => exact fun _ _ _ h => h
        case hyT4q =>
          refine Or.inl ⟨by rfl, ?_⟩
          intro w hSw
          (try dsimp only at hSw)
          go_simp
          (try with_reducible rfl)
        (try simp only [Act.put, List.setIfInBounds_toArray, List.set_cons_zero, List.set_cons_succ])
        refine' wpAnyH_take (i := 5) (oi := ?oiT5q) (v := ?vT5q) ?hiT5q (by kernel_rfl) (by kernel_rfl) (by kernel_rfl) ?hQT5q ?hyT5q hS ?restT5q
        case hiT5q =>
          simp only [List.getElem?_toArray, List.getElem?_cons_succ, List.getElem?_cons_zero]
          exact rfl
        case hQT5q => exact fun _ _ _ h => h
        case hyT5q =>
          refine Or.inl ⟨by rfl, ?_⟩
          intro w hSw
          (try dsimp only at hSw)
          go_simp
          (try with_reducible rfl)
        (try simp only [Act.put, List.setIfInBounds_toArray, List.set_cons_zero, List.set_cons_succ])
        refine' wpAnyH_take (i := 6) (oi := ?oiT6q) (v := ?vT6q) ?hiT6q (by kernel_rfl) (by kernel_rfl) (by kernel_rfl) ?hQT6q ?hyT6q hS ?restT6q
        case hiT6q =>
          simp only [List.getElem?_toArray, List.getElem?_cons_succ, List.getElem?_cons_zero]
          exact rfl
        case hQT6q => exact fun _ _ _ h => h
        case hyT6q =>
          refine Or.inl ⟨by rfl, ?_⟩
          intro w hSw
          (try dsimp only at hSw)
          go_simp
          (try with_reducible rfl)
        (try simp only [Act.put, List.setIfInBounds_toArray, List.set_cons_zero, List.set_cons_succ])
        refine' wpAnyH_take (i := 7) (oi := ?oiT7q) (v := ?vT7q) ?hiT7q (by kernel_rfl) (by kernel_rfl) (by kernel_rfl) ?hQT7q ?hyT7q hS ?restT7q
        case hiT7q =>
          simp only [List.getElem?_toArray, List.getElem?_cons_succ, List.getElem?_cons_zero]
          exact rfl
        case hQT7q => exact fun _ _ _ h => h
        case hyT7q =>
          refine Or.inl ⟨by rfl, ?_⟩
          intro w hSw
          (try dsimp only at hSw)
          go_simp
          (try with_reducible rfl)
        (try simp only [Act.put, List.setIfInBounds_toArray, List.set_cons_zero, List.set_cons_succ])
        refine' wpAnyH_take (i := 8) (oi := ?oiT8q) (v := ?vT8q) ?hiT8q (by kernel_rfl) (by kernel_rfl) (by kernel_rfl) ?hQT8q ?hyT8q hS ?restT8q
        case hiT8q =>
          simp only [List.getElem?_toArray, List.getElem?_cons_succ, List.getElem?_cons_zero]
          exact rfl
        case hQT8q => exact fun _ _ _ h => h
        case hyT8q =>
          refine Or.inl ⟨by rfl, ?_⟩
          intro w hSw
          (try dsimp only at hSw)
          go_simp
          (try with_reducible rfl)
        (try simp only [Act.put, List.setIfInBounds_toArray, List.set_cons_zero, List.set_cons_succ])
        refine wpAnyH_done (by kernel_rfl) ?_ _
        have hB2 := hS.bel
        clear hS
        go_wp2
        go_ret3
        exact ⟨by rw [TT.out, X.out]; rfl, hB2⟩
      · have n1 : ((c.toNat : Int) == 34) = false := by rw [beq_eq_false_iff_ne]; omega
        by_cases q2 : c.toNat = 92
        · obtain rfl : c = 92 := UInt8.toNat.inj q2
          have w1 : IntKind.i64.wrap ((k : Int) + 1) = (k : Int) + 1 := by rw [IntKind.wrap_i64]; omega
          by_cases hlt2 : k + 1 < l.length
          · have hi2 : k + 1 < s.size := by omega
            obtain ⟨d, hd⟩ : ∃ d : UInt8, s[k + 1]'hi2 = d := ⟨_, rfl⟩
            have hdl : l[k + 1]? = some d := by rw [← HU.out, ← hd]; exact Lib.data_getElem? s (k + 1) hi2
            obtain ⟨hn2, he2⟩ := List.getElem?_eq_some_iff.1 hdl
            have hdr2 : l.drop (k + 1) = d :: l.drop (k + 2) := by rw [List.drop_eq_getElem_cons hn2, he2]
            rw [hdr2] at hT
            have k3 : (0 : Int) ≤ (k : Int) + 1 := by omega
            have k4 : (k : Int) + 1 < (l.length : Int) := by omega
            have k5 : (k : Int) + 1 < (s.size : Int) := by omega
            have e1 : ((k : Int) + 1 == (s.size : Int)) = false := by rw [beq_eq_false_iff_ne]; omega
            have e2 : ((k : Int) + 1 == (l.length : Int)) = false := by rw [beq_eq_false_iff_ne]; omega
            have e3 : ¬ (k : Int) + 1 = (l.length : Int) := by omega
            have w2 : IntKind.i64.wrap ((k : Int) + 1 + 1) = (k : Int) + 1 + 1 := by rw [IntKind.wrap_i64]; omega
            clear hdl he2 hdr2
            by_cases p : d.toNat = 34 ∨ d.toNat = 92
            · rw [tE_b1 _ _ _ _ q2 p] at hT
              have TT := Lib.hid hT
              clear hT hO0 hB0
              rcases p with p | p
              · obtain rfl : d = 34 := UInt8.toNat.inj p
                go_wp2_with (at_builtin; refine wpList_append_own _ rfl (.tmp 53) (.tmp 57) 74 rfl w.heap.size 5 i0 (.int .u8 0) 1 1 Tryd.underlying74 HI.out HZ.out HZ1.out HZ2.out rfl (by decide) _ _ _ rfl (E.out.own.alloc _) _ 1 1 [.int .u8 34] rfl rfl ?s1 ?s2 ?s3 ?s4 ?s5 ?_)
                case s1 => intro j u hj; match j, hj with | 0, hj => simp at hj; subst hj; rw [Addr.add_lit]; simp
                case s2 => intro u hu; simp at hu; subst hu; rfl
                case s3 => unfold maxLen; omega
                case s4 => omega
                case s5 => have := E.out.ge; simp; omega
                intro vs ws howns hgrows _
                have Gs := Lib.hid (E.out.app (X := [34]) _ howns hgrows)
                clear howns hgrows
                go_wp2
                go_roundw
                case rel => exact ⟨k + 2, S ++ [34], by omega, by simp; omega, by go_num, Gs.out, TT.out⟩
                case measure => simp [intOf]; omega
              · obtain rfl : d = 92 := UInt8.toNat.inj p
                go_wp2_with (at_builtin; refine wpList_append_own _ rfl (.tmp 53) (.tmp 57) 74 rfl w.heap.size 5 i0 (.int .u8 0) 1 1 Tryd.underlying74 HI.out HZ.out HZ1.out HZ2.out rfl (by decide) _ _ _ rfl (E.out.own.alloc _) _ 1 1 [.int .u8 92] rfl rfl ?u1 ?u2 ?u3 ?u4 ?u5 ?_)
                case u1 => intro j u hj; match j, hj with | 0, hj => simp at hj; subst hj; rw [Addr.add_lit]; simp
                case u2 => intro u hu; simp at hu; subst hu; rfl
                case u3 => unfold maxLen; omega
                case u4 => omega
                case u5 => have := E.out.ge; simp; omega
                intro vu wu hownu hgrowu _
                have Gu := Lib.hid (E.out.app (X := [92]) _ hownu hgrowu)
                clear hownu hgrowu
                go_wp2
                go_roundw
                case rel => exact ⟨k + 2, S ++ [92], by omega, by simp; omega, by go_num, Gu.out, TT.out⟩
                case measure => simp [intOf]; omega
            · rw [tE_b2 _ _ _ _ q2 p] at hT
              have TT := Lib.hid hT
              have m1 : ((d.toNat : Int) == 34) = false := by rw [beq_eq_false_iff_ne]; omega
              have m2 : ((d.toNat : Int) == 92) = false := by rw [beq_eq_false_iff_ne]; omega
              have m5 : ((d.toNat : Int) != 34) = true := by rw [bne, m1]; rfl
              have m6 : ((d.toNat : Int) != 92) = true := by rw [bne, m2]; rfl
              clear m1 m2
              clear hT hO0 hB0
              go_wp2
              go_ret3
              exact ⟨by rw [TT.out]; rfl, E.out.bel⟩
          · have hd0 : l.drop (k + 1) = [] := List.drop_eq_nil_of_le (by omega)
            rw [hd0, tE_b0 _ _ q2] at hT
            have TT := Lib.hid hT
            have e1 : ((k : Int) + 1 == (s.size : Int)) = true := by rw [beq_iff_eq]; omega
            have e2 : ((k : Int) + 1 == (l.length : Int)) = true := by rw [beq_iff_eq]; omega
            clear hT hd0
            go_wp2
            go_ret3
            exact ⟨by rw [TT.out]; rfl, E.out.bel⟩
        · rw [tE_c _ _ _ q q2] at hT
          have n2 : ((c.toNat : Int) == 92) = false := by rw [beq_eq_false_iff_ne]; omega
          have TT := Lib.hid hT
          clear hT hO0 hB0
          go_wp2_with (at_builtin; refine wpList_append_own _ rfl (.tmp 53) (.tmp 57) 74 rfl w.heap.size 5 i0 (.int .u8 0) 1 1 Tryd.underlying74 HI.out HZ.out HZ1.out HZ2.out rfl (by decide) _ _ _ rfl (E.out.own.alloc _) _ 1 1 [.int .u8 (c.toNat : Int)] rfl rfl ?r1 ?r2 ?r3 ?r4 ?r5 ?_)
          case r1 => intro j u hj; match j, hj with | 0, hj => simp at hj; subst hj; rw [Addr.add_lit]; simp
          case r2 => intro u hu; simp at hu; subst hu; rfl
          case r3 => unfold maxLen; omega
          case r4 => omega
          case r5 => have := E.out.ge; simp; omega
          intro vr wr hownr hgrowr _
          have Gr := Lib.hid (E.out.app (X := [c]) _ hownr hgrowr)
          clear hownr hgrowr
          go_wp2
          go_roundw
          case rel => exact ⟨k + 1, S ++ [c], by omega, by simp; omega, by go_num, Gr.out, TT.out⟩
          case measure => simp [intOf]; omega
    · obtain rfl : k = l.length := by omega
      rw [List.drop_length, tE_nil] at hT
      have TT := Lib.hid hT
      clear hT hO0 hB0
      go_wp2
      go_ret3
      exact ⟨by rw [TT.out]; rfl, E.out.bel⟩
end Go.Proofs.YtmcmgmpgmbljiaaDoor
