/- words.TakeQuoted: a text between two signs, at every text. -/
import Derived.Test.YthdoniefjmphaaaGreatDoorTxt
namespace Go.Proofs.YthdoniefjmphaaaGreatDoor
open Go Go.Proofs Go.RowKit Go.Shelf
set_option maxRecDepth 100000
def tE : List UInt8 → List UInt8 → Option (List UInt8 × List UInt8)
 | _, [] => none
 | S, [c] => if c.toNat = 34 then some (S, []) else none
 | S, c :: d :: t => if c.toNat = 34 then some (S, d :: t) else if c.toNat = 92 then (if d.toNat = 34 ∨ d.toNat = 92 then tE (S ++ [d]) t else none) else tE (S ++ [c]) (d :: t)
def tEV : Option (List UInt8 × List UInt8) → Value
 | none => .tuple #[.string ⟨#[]⟩, .string ⟨#[]⟩, .bool false]
 | some (a, b) => .tuple #[.string ⟨a.toArray⟩, .string ⟨b.toArray⟩, .bool true]
theorem bytes_mk (s : ByteArray) (l : List UInt8) (h : s.data.toList = l) : s = ⟨l.toArray⟩ := by
 cases s with
 | mk d => simp at h; subst h; rfl
theorem EW.drew {w W : World} {base : Nat} {v : Value} {S : List UInt8} (h : EW w base v S W) : EW w base v S W.drew := ⟨h.own, h.bel.drew, h.oth.drew, h.ge⟩
theorem tE_nil (S : List UInt8) : tE S [] = none := by unfold tE; rfl
theorem tE_q (S t : List UInt8) (c : UInt8) (h : c.toNat = 34) : tE S (c :: t) = some (S, t) := by
 cases t with
 | nil => unfold tE; rw [if_pos h]
 | cons d t => unfold tE; rw [if_pos h]
theorem tE_c (S t : List UInt8) (c : UInt8) (h1 : ¬ c.toNat = 34) (h2 : ¬ c.toNat = 92) : tE S (c :: t) = tE (S ++ [c]) t := by
 cases t with
 | nil => rw [tE_nil]; unfold tE; rw [if_neg h1]
 | cons d t =>
  conv => lhs; unfold tE
  rw [if_neg h1, if_neg h2]
theorem tE_b0 (S : List UInt8) (c : UInt8) (h2 : c.toNat = 92) : tE S [c] = none := by
 unfold tE; rw [if_neg (by omega)]
theorem tE_b1 (S t : List UInt8) (c d : UInt8) (h2 : c.toNat = 92) (h : d.toNat = 34 ∨ d.toNat = 92) : tE S (c :: d :: t) = tE (S ++ [d]) t := by
 conv => lhs; unfold tE
 rw [if_neg (by omega), if_pos h2, if_pos h]
theorem tE_b2 (S t : List UInt8) (c d : UInt8) (h2 : c.toNat = 92) (h : ¬ (d.toNat = 34 ∨ d.toNat = 92)) : tE S (c :: d :: t) = none := by
 unfold tE;rw [if_neg (by omega), if_pos h2, if_neg h]
def tqR (l : List UInt8) : Option (List UInt8 × List UInt8) := if Lib.hasPrefix l [34] = true then tE [] (Lib.trimPrefix l [34]) else none
theorem cutQ_any (s : List UInt8) (W : World) : Calls Tryz.prog 58 #[.string ⟨s.toArray⟩, .string ⟨#[34]⟩] W fun e w' => e = .returned (.tuple #[.string ⟨(Lib.trimPrefix s [34]).toArray⟩, .bool (Lib.hasPrefix s [34])]) ∧ W = w' :=
 (Tryz.strings_CutPrefix ⟨s.toArray⟩ ⟨#[34]⟩ W).mono (fun _ _ ⟨x, y⟩ => ⟨x, y.symm⟩)
theorem tp_len1 (s p : List UInt8) : (Lib.trimPrefix s p).length ≤ s.length := by
 unfold Lib.trimPrefix; split
 ·
  rw [List.length_drop]; omega
 ·
  exact Nat.le_refl _
set_option maxHeartbeats 4000000 in
theorem takeQ_any (l0 : List UInt8) (hl0 : l0.length ≤ 100000) (w : World) :
  Calls Tryz.prog 79 #[.string ⟨l0.toArray⟩] w fun e w' => e = .returned (tEV (tqR l0)) ∧ Below w.heap.size w w' := by
 obtain ⟨i0, hi, hz0, hz1, hz2⟩ := info_parts info_u8;have HI := Lib.hid hi;have HZ := Lib.hid hz0;have HZ1 := Lib.hid hz1;have HZ2 := Lib.hid hz2;have hl := Nat.le_trans (tp_len1 l0 [34]) hl0;have HC := cutQ_any l0 w;have TQ : Hid (tqR l0 = if Lib.hasPrefix l0 [34] = true then tE [] (Lib.trimPrefix l0 [34]) else none) := by unfold Hid tqR; rfl
 generalize Lib.trimPrefix l0 [34] = l at *;generalize hq : Lib.hasPrefix l0 [34] = b at *;clear hi hz0 hz1 hz2 hq;obtain ⟨s, hs⟩ : ∃ s : ByteArray, s = ⟨l.toArray⟩ := ⟨_, rfl⟩;rw [← hs] at HC;have hud : s.data.toList = l := by rw [hs]
 have hsz : s.size = l.length := by rw [Lib.size_eq, hud]
 have HU := Lib.hid hud;have HC := Lib.hid HC;clear hud hs;cases b
 ·
  have TQ2 := Lib.hid (show tqR l0 = none by have := TQ.out; simpa using this);clear TQ;go_enter Tryz.func79, Tryz.ntmps79
  go_wp2_with fail
  refine (HC.out).mono ?_;rintro e w1 ⟨rfl, rfl⟩;go_wp2
  go_ret3
  exact ⟨by rw [TQ2.out]; rfl, Below.refl _ _⟩
 have TQ2 := Lib.hid (show tqR l0 = tE [] l by have := TQ.out; simpa using this);clear TQ;rw [TQ2.out];clear TQ2;go_enter Tryz.func79, Tryz.ntmps79
 go_wp2_with fail
 refine (HC.out).mono ?_;rintro e w1 ⟨rfl, rfl⟩;clear HC;go_wp2
 go_loopw [6, 7] (fun v i wr => ∃ (k : Nat) (S : List UInt8), k ≤ l.length ∧ S.length ≤ k ∧ i = .int .i64 (k : Int) ∧ EW w w.heap.size v S wr ∧ tE [] l = tE S (l.drop k)) (fun _ i _ => l.length - (intOf i).toNat)
 case atStart => exact ⟨0, [], Nat.zero_le _, Nat.zero_le _, rfl, ⟨World.ownsRow_nil _ _ _ _, Below.refl _ _, Lib.OthersKept.refl _ _ _, Nat.le_refl _⟩, rfl⟩
 case round =>
  obtain ⟨k, S, hk, hSk, rfl, hE, hT⟩ := hrel;have E := Lib.hid hE;have hB0 := hE.bel;have hO0 := hE.own;clear hE;by_cases hlt : k < l.length
  ·
   have hi : k < s.size := by omega
   obtain ⟨c, hc⟩ : ∃ c : UInt8, s[k]'hi = c := ⟨_, rfl⟩;have hcl : l[k]? = some c := by rw [← HU.out, ← hc]; exact Lib.data_getElem? s k hi
   obtain ⟨hn, he⟩ := List.getElem?_eq_some_iff.1 hcl;have hdr : l.drop k = c :: l.drop (k + 1) := by rw [List.drop_eq_getElem_cons hn, he]
   rw [hdr] at hT;have h0 : (0 : Int) ≤ (k : Int) := by omega
   have h1 : (k : Int) < (l.length : Int) := by omega
   have h2 : (k : Int) < (s.size : Int) := by omega
   clear hcl he hdr;by_cases q : c.toNat = 34
   ·
    rw [tE_q _ _ _ q] at hT;obtain rfl : c = 34 := UInt8.toNat.inj q;have hx : s.extract (k + 1) s.size = ⟨(l.drop (k + 1)).toArray⟩ := bytes_mk _ _ (by rw [Lib.extract_to_end, HU.out]);rw [hsz] at hx;have X := Lib.hid hx;have TT := Lib.hid hT;have hE0 := E.out;clear hx hT q;have w1 : IntKind.i64.wrap ((k : Int) + 1) = (k : Int) + 1 := by rw [IntKind.wrap_i64]; omega
    have k2 : (k : Int) + 1 ≤ (l.length : Int) := by omega
    have k3 : (0 : Int) ≤ (k : Int) + 1 := by omega
    go_wp2
    refine wp_region_held_drew (S := fun w' => EW w w.heap.size u6 S w') (by kernel_rfl) ?_ (fun hS => ?_)
    ·
     (try dsimp only)
     (repeat' apply And.intro) <;> first | go_cell | exact hE0.drew
    refine' wpAnyH_take (i := 0) (oi := ?oiT0q) (v := ?vT0q) ?hiT0q (by kernel_rfl) (by kernel_rfl) (by kernel_rfl) ?hQT0q ?hyT0q hS ?restT0q
    case hiT0q =>
     simp only [List.getElem?_toArray, List.getElem?_cons_succ, List.getElem?_cons_zero];exact rfl
    case hQT0q => exact fun _ _ _ h => h
    case hyT0q =>
     refine Or.inl ⟨by rfl, ?_⟩;intro w hSw
     (try dsimp only at hSw)
     go_simp
     (try with_reducible rfl)
    (try simp only [Act.put, List.setIfInBounds_toArray, List.set_cons_zero, List.set_cons_succ])
    refine' wpAnyH_take (i := 1) (oi := ?oiT1q) (v := ?vT1q) ?hiT1q (by kernel_rfl) (by kernel_rfl) (by kernel_rfl) ?hQT1q ?hyT1q hS ?restT1q
    case hiT1q =>
     simp only [List.getElem?_toArray, List.getElem?_cons_succ, List.getElem?_cons_zero];exact rfl
    case hQT1q => exact fun _ _ _ h => h
    case hyT1q =>
     refine Or.inl ⟨by rfl, ?_⟩;intro w hSw
     (try dsimp only at hSw)
     have hC := str_of_row (P := Tryz.prog) (src := 86) (dst := 9) hSw.own Tryz.underlying86 Tryz.underlying5 Tryz.underlying9;go_simp
     (try with_reducible rfl)
    (try simp only [Act.put, List.setIfInBounds_toArray, List.set_cons_zero, List.set_cons_succ])
    refine' wpAnyH_take (i := 2) (oi := ?oiT2q) (v := ?vT2q) ?hiT2q (by kernel_rfl) (by kernel_rfl) (by kernel_rfl) ?hQT2q ?hyT2q hS ?restT2q
    case hiT2q =>
     simp only [List.getElem?_toArray, List.getElem?_cons_succ, List.getElem?_cons_zero];exact rfl
    case hQT2q => exact fun _ _ _ h => h
    case hyT2q =>
     refine Or.inl ⟨by rfl, ?_⟩;intro w hSw
     (try dsimp only at hSw)
     go_simp
     (try with_reducible rfl)
    (try simp only [Act.put, List.setIfInBounds_toArray, List.set_cons_zero, List.set_cons_succ])
    refine' wpAnyH_take (i := 3) (oi := ?oiT3q) (v := ?vT3q) ?hiT3q (by kernel_rfl) (by kernel_rfl) (by kernel_rfl) ?hQT3q ?hyT3q hS ?restT3q
    case hiT3q =>
     simp only [List.getElem?_toArray, List.getElem?_cons_succ, List.getElem?_cons_zero];exact rfl
    case hQT3q => exact fun _ _ _ h => h
    case hyT3q =>
     refine Or.inl ⟨by rfl, ?_⟩;intro w hSw
     (try dsimp only at hSw)
     go_simp
     (try with_reducible rfl)
    (try simp only [Act.put, List.setIfInBounds_toArray, List.set_cons_zero, List.set_cons_succ])
    refine' wpAnyH_take (i := 4) (oi := ?oiT4q) (v := ?vT4q) ?hiT4q (by kernel_rfl) (by kernel_rfl) (by kernel_rfl) ?hQT4q ?hyT4q hS ?restT4q
    case hiT4q =>
     simp only [List.getElem?_toArray, List.getElem?_cons_succ, List.getElem?_cons_zero];exact rfl
    case hQT4q => exact fun _ _ _ h => h
    case hyT4q =>
     refine Or.inl ⟨by rfl, ?_⟩;intro w hSw
     (try dsimp only at hSw)
     go_simp
     (try with_reducible rfl)
    (try simp only [Act.put, List.setIfInBounds_toArray, List.set_cons_zero, List.set_cons_succ])
    refine' wpAnyH_take (i := 5) (oi := ?oiT5q) (v := ?vT5q) ?hiT5q (by kernel_rfl) (by kernel_rfl) (by kernel_rfl) ?hQT5q ?hyT5q hS ?restT5q
    case hiT5q =>
     simp only [List.getElem?_toArray, List.getElem?_cons_succ, List.getElem?_cons_zero];exact rfl
    case hQT5q => exact fun _ _ _ h => h
    case hyT5q =>
     refine Or.inl ⟨by rfl, ?_⟩;intro w hSw
     (try dsimp only at hSw)
     go_simp
     (try with_reducible rfl)
    (try simp only [Act.put, List.setIfInBounds_toArray, List.set_cons_zero, List.set_cons_succ])
    refine' wpAnyH_take (i := 6) (oi := ?oiT6q) (v := ?vT6q) ?hiT6q (by kernel_rfl) (by kernel_rfl) (by kernel_rfl) ?hQT6q ?hyT6q hS ?restT6q
    case hiT6q =>
     simp only [List.getElem?_toArray, List.getElem?_cons_succ, List.getElem?_cons_zero];exact rfl
    case hQT6q => exact fun _ _ _ h => h
    case hyT6q =>
     refine Or.inl ⟨by rfl, ?_⟩;intro w hSw
     (try dsimp only at hSw)
     go_simp
     (try with_reducible rfl)
    (try simp only [Act.put, List.setIfInBounds_toArray, List.set_cons_zero, List.set_cons_succ])
    refine' wpAnyH_take (i := 7) (oi := ?oiT7q) (v := ?vT7q) ?hiT7q (by kernel_rfl) (by kernel_rfl) (by kernel_rfl) ?hQT7q ?hyT7q hS ?restT7q
    case hiT7q =>
     simp only [List.getElem?_toArray, List.getElem?_cons_succ, List.getElem?_cons_zero];exact rfl
    case hQT7q => exact fun _ _ _ h => h
    case hyT7q =>
     refine Or.inl ⟨by rfl, ?_⟩;intro w hSw
     (try dsimp only at hSw)
     go_simp
     (try with_reducible rfl)
    (try simp only [Act.put, List.setIfInBounds_toArray, List.set_cons_zero, List.set_cons_succ])
    refine' wpAnyH_take (i := 8) (oi := ?oiT8q) (v := ?vT8q) ?hiT8q (by kernel_rfl) (by kernel_rfl) (by kernel_rfl) ?hQT8q ?hyT8q hS ?restT8q
    case hiT8q =>
     simp only [List.getElem?_toArray, List.getElem?_cons_succ, List.getElem?_cons_zero];exact rfl
    case hQT8q => exact fun _ _ _ h => h
    case hyT8q =>
     refine Or.inl ⟨by rfl, ?_⟩;intro w hSw
     (try dsimp only at hSw)
     go_simp
     (try with_reducible rfl)
    (try simp only [Act.put, List.setIfInBounds_toArray, List.set_cons_zero, List.set_cons_succ])
    refine wpAnyH_done (by kernel_rfl) ?_ _;have hB2 := hS.bel;clear hS;go_wp2
    go_ret3
    exact ⟨by rw [TT.out, X.out]; rfl, hB2⟩
   ·
    have n1 : ((c.toNat : Int) == 34) = false := by rw [beq_eq_false_iff_ne]; omega
    by_cases q2 : c.toNat = 92
    ·
     obtain rfl : c = 92 := UInt8.toNat.inj q2;have w1 : IntKind.i64.wrap ((k : Int) + 1) = (k : Int) + 1 := by rw [IntKind.wrap_i64]; omega
     by_cases hlt2 : k + 1 < l.length
     ·
      have hi2 : k + 1 < s.size := by omega
      obtain ⟨d, hd⟩ : ∃ d : UInt8, s[k + 1]'hi2 = d := ⟨_, rfl⟩;have hdl : l[k + 1]? = some d := by rw [← HU.out, ← hd]; exact Lib.data_getElem? s (k + 1) hi2
      obtain ⟨hn2, he2⟩ := List.getElem?_eq_some_iff.1 hdl;have hdr2 : l.drop (k + 1) = d :: l.drop (k + 2) := by rw [List.drop_eq_getElem_cons hn2, he2]
      rw [hdr2] at hT;have k3 : (0 : Int) ≤ (k : Int) + 1 := by omega
      have k4 : (k : Int) + 1 < (l.length : Int) := by omega
      have k5 : (k : Int) + 1 < (s.size : Int) := by omega
      have e1 : ((k : Int) + 1 == (s.size : Int)) = false := by rw [beq_eq_false_iff_ne]; omega
      have e2 : ((k : Int) + 1 == (l.length : Int)) = false := by rw [beq_eq_false_iff_ne]; omega
      have e3 : ¬ (k : Int) + 1 = (l.length : Int) := by omega
      have w2 : IntKind.i64.wrap ((k : Int) + 1 + 1) = (k : Int) + 1 + 1 := by rw [IntKind.wrap_i64]; omega
      clear hdl he2 hdr2;by_cases p : d.toNat = 34 ∨ d.toNat = 92
      ·
       rw [tE_b1 _ _ _ _ q2 p] at hT;have TT := Lib.hid hT;clear hT hO0 hB0;rcases p with p | p
       ·
        obtain rfl : d = 34 := UInt8.toNat.inj p;go_wp2_with (at_builtin; refine wpList_append_own _ rfl (.tmp 53) (.tmp 57) 86 rfl w.heap.size 5 i0 (.int .u8 0) 1 1 Tryz.underlying86 HI.out HZ.out HZ1.out HZ2.out rfl (by decide) _ _ _ rfl (E.out.own.alloc _) _ 1 1 [.int .u8 34] rfl rfl ?s1 ?s2 ?s3 ?s4 ?s5 ?_)
        case s1 => intro j u hj; match j, hj with | 0, hj => simp at hj; subst hj; rw [Addr.add_lit]; simp
        case s2 => intro u hu; simp at hu; subst hu; rfl
        case s3 => unfold maxLen; omega
        case s4 => omega
        case s5 => have := E.out.ge; simp; omega
        intro vs ws howns hgrows _;have Gs := Lib.hid (E.out.app (X := [34]) _ howns hgrows);clear howns hgrows;go_wp2
        go_roundw
        case rel => exact ⟨k + 2, S ++ [34], by omega, by simp; omega, by go_num, Gs.out, TT.out⟩
        case measure => simp [intOf]; omega
       ·
        obtain rfl : d = 92 := UInt8.toNat.inj p;go_wp2_with (at_builtin; refine wpList_append_own _ rfl (.tmp 53) (.tmp 57) 86 rfl w.heap.size 5 i0 (.int .u8 0) 1 1 Tryz.underlying86 HI.out HZ.out HZ1.out HZ2.out rfl (by decide) _ _ _ rfl (E.out.own.alloc _) _ 1 1 [.int .u8 92] rfl rfl ?u1 ?u2 ?u3 ?u4 ?u5 ?_)
        case u1 => intro j u hj; match j, hj with | 0, hj => simp at hj; subst hj; rw [Addr.add_lit]; simp
        case u2 => intro u hu; simp at hu; subst hu; rfl
        case u3 => unfold maxLen; omega
        case u4 => omega
        case u5 => have := E.out.ge; simp; omega
        intro vu wu hownu hgrowu _;have Gu := Lib.hid (E.out.app (X := [92]) _ hownu hgrowu);clear hownu hgrowu;go_wp2
        go_roundw
        case rel => exact ⟨k + 2, S ++ [92], by omega, by simp; omega, by go_num, Gu.out, TT.out⟩
        case measure => simp [intOf]; omega
      ·
       rw [tE_b2 _ _ _ _ q2 p] at hT;have TT := Lib.hid hT;have m1 : ((d.toNat : Int) == 34) = false := by rw [beq_eq_false_iff_ne]; omega
       have m2 : ((d.toNat : Int) == 92) = false := by rw [beq_eq_false_iff_ne]; omega
       have m5 : ((d.toNat : Int) != 34) = true := by rw [bne, m1]; rfl
       have m6 : ((d.toNat : Int) != 92) = true := by rw [bne, m2]; rfl
       clear m1 m2;clear hT hO0 hB0;go_wp2
       go_ret3
       exact ⟨by rw [TT.out]; rfl, E.out.bel⟩
     ·
      have hd0 : l.drop (k + 1) = [] := List.drop_eq_nil_of_le (by omega);rw [hd0, tE_b0 _ _ q2] at hT;have TT := Lib.hid hT;have e1 : ((k : Int) + 1 == (s.size : Int)) = true := by rw [beq_iff_eq]; omega
      have e2 : ((k : Int) + 1 == (l.length : Int)) = true := by rw [beq_iff_eq]; omega
      clear hT hd0;go_wp2
      go_ret3
      exact ⟨by rw [TT.out]; rfl, E.out.bel⟩
    ·
     rw [tE_c _ _ _ q q2] at hT;have n2 : ((c.toNat : Int) == 92) = false := by rw [beq_eq_false_iff_ne]; omega
     have TT := Lib.hid hT;clear hT hO0 hB0;go_wp2_with (at_builtin; refine wpList_append_own _ rfl (.tmp 53) (.tmp 57) 86 rfl w.heap.size 5 i0 (.int .u8 0) 1 1 Tryz.underlying86 HI.out HZ.out HZ1.out HZ2.out rfl (by decide) _ _ _ rfl (E.out.own.alloc _) _ 1 1 [.int .u8 (c.toNat : Int)] rfl rfl ?r1 ?r2 ?r3 ?r4 ?r5 ?_)
     case r1 => intro j u hj; match j, hj with | 0, hj => simp at hj; subst hj; rw [Addr.add_lit]; simp
     case r2 => intro u hu; simp at hu; subst hu; rfl
     case r3 => unfold maxLen; omega
     case r4 => omega
     case r5 => have := E.out.ge; simp; omega
     intro vr wr hownr hgrowr _;have Gr := Lib.hid (E.out.app (X := [c]) _ hownr hgrowr);clear hownr hgrowr;go_wp2
     go_roundw
     case rel => exact ⟨k + 1, S ++ [c], by omega, by simp; omega, by go_num, Gr.out, TT.out⟩
     case measure => simp [intOf]; omega
  ·
   obtain rfl : k = l.length := by omega
   rw [List.drop_length, tE_nil] at hT;have TT := Lib.hid hT;clear hT hO0 hB0;go_wp2
   go_ret3
   exact ⟨by rw [TT.out]; rfl, E.out.bel⟩
end Go.Proofs.YthdoniefjmphaaaGreatDoor
/- braces: how items are read, as functions (mathematics); texts in memory. -/
namespace Go.Proofs.YthdoniefjmphaaaGreatDoor
open Go Go.Proofs Go.RowKit Go.Shelf
set_option maxRecDepth 100000
def TxAt (n₀ : Nat) (W : World) (sv : Value) (ts : List (List UInt8)) : Prop :=
 ts.length ≤ 1000 ∧ ∃ b off cap, sv = .slice (some ⟨b, off, none⟩) ts.length cap ∧ b < n₀ ∧ ∀ j x, ts[j]? = some x → W.cell? ⟨b, off + j, none⟩ = some (.string ⟨x.toArray⟩)
theorem TxAt.below {n₀ : Nat} {A B : World} {sv : Value} {ts : List (List UInt8)} (h : TxAt n₀ A sv ts) (hb : Below n₀ A B) : TxAt n₀ B sv ts := by
 obtain ⟨hl, b, off, cap, e, h1, h2⟩ := h;exact ⟨hl, b, off, cap, e, h1, fun j x hj => (hb.cell (p := ⟨b, off + j, none⟩) h1).trans (h2 j x hj)⟩
theorem TxAt.mono {n₀ n₁ : Nat} {A : World} {sv : Value} {ts : List (List UInt8)} (h : TxAt n₀ A sv ts) (hb : n₀ ≤ n₁) : TxAt n₁ A sv ts := by
 obtain ⟨hl, b, off, cap, e, h1, h2⟩ := h;exact ⟨hl, b, off, cap, e, by omega, h2⟩
def headB (ops : List (List UInt8)) (c : UInt8) : Bool := ops.any fun op => Lib.hasPrefix op [c]
def cutN (ops : List (List UInt8)) (l : List UInt8) : List UInt8 × List UInt8 := (l.takeWhile fun c => !headB ops c, l.dropWhile fun c => !headB ops c)
def longF (s : List UInt8) (found op : List UInt8) : List UInt8 := if found.length < op.length ∧ Lib.hasPrefix s op = true then op else found
def longR (ops : List (List UInt8)) (s : List UInt8) : List UInt8 := ops.foldl (longF s) []
theorem long_pre (ops : List (List UInt8)) (s : List UInt8) : Lib.hasPrefix s (longR ops s) = true := by
 have key : ∀ (ops : List (List UInt8)) (f : List UInt8), Lib.hasPrefix s f = true → Lib.hasPrefix s (ops.foldl (longF s) f) = true := by
  intro ops;induction ops with
  | nil => intro f h; exact h
  | cons o t ih =>
   intro f h;rw [List.foldl_cons];refine ih _ ?_;unfold longF;split
   ·
    rename_i q; exact q.2
   ·
    exact h
 exact key ops [] (by unfold Lib.hasPrefix; simp)
abbrev Itm := List UInt8 × List UInt8 × List UInt8
def takeI (ops : List (List UInt8)) (a s : List UInt8) : Option (Itm × List UInt8) :=
 match tE [] (Lib.trimPrefix ((cutN ops (Lib.trimPrefix s a)).2.drop (longR ops (cutN ops (Lib.trimPrefix s a)).2).length) [34]) with
 | none => none
 | some (v, r) => if Lib.hasPrefix s a = true ∧ longR ops (cutN ops (Lib.trimPrefix s a)).2 ≠ [] ∧ Lib.hasPrefix ((cutN ops (Lib.trimPrefix s a)).2.drop (longR ops (cutN ops (Lib.trimPrefix s a)).2).length) [34] = true then some (((cutN ops (Lib.trimPrefix s a)).1, longR ops (cutN ops (Lib.trimPrefix s a)).2, v), r) else none
def itmV (x : Itm) : Value := .agg #[.string ⟨x.1.toArray⟩, .string ⟨x.2.1.toArray⟩, .string ⟨x.2.2.toArray⟩]
def takeIV : Option (Itm × List UInt8) → Value
 | none => .tuple #[.agg #[.string ⟨#[]⟩, .string ⟨#[]⟩, .string ⟨#[]⟩], .string ⟨#[]⟩, .bool false]
 | some (x, r) => .tuple #[itmV x, .string ⟨r.toArray⟩, .bool true]
end Go.Proofs.YthdoniefjmphaaaGreatDoor
/- braces.cutName: what is ahead of the first byte that one of the words begins with. -/
namespace Go.Proofs.YthdoniefjmphaaaGreatDoor
open Go Go.Proofs Go.RowKit Go.Shelf
set_option maxRecDepth 100000
theorem ext_one (l : List UInt8) (k : Nat) (hk : k < l.length) : (⟨l.toArray⟩ : ByteArray).extract k (k + 1) = ⟨[l[k]].toArray⟩ := by
 apply bytes_mk;rw [Lib.extract_data];simp [List.take_one, List.head?_drop, hk]
set_option maxHeartbeats 1000000 in
theorem cutName1_any (op l : List UInt8) (k : Nat) (hk : k < l.length) (hl : l.length ≤ 100000) (bs bi : Nat) (w : World) (c0 : w.cell? ⟨bs, 0, none⟩ = some (.string ⟨l.toArray⟩)) (c1 : w.cell? ⟨bi, 0, none⟩ = some (.int .i64 (k : Int))) :
  Calls Tryz.prog 99 #[.string ⟨op.toArray⟩, .pointer (some ⟨bs, 0, none⟩), .pointer (some ⟨bi, 0, none⟩)] w fun e w' => e = .returned (.bool (Lib.hasPrefix op [l[k]])) ∧ w = w' := by
 have HP := Lib.hid ((Tryz.strings_HasPrefix ⟨op.toArray⟩ ⟨[l[k]].toArray⟩ w));have EX := Lib.hid (ext_one l k hk);have h0 : (0 : Int) ≤ (k : Int) := by omega
 have h1 : (k : Int) < (l.length : Int) := by omega
 have h2 : (k : Int) + 1 ≤ (l.length : Int) := by omega
 have h3 : k + 1 ≤ l.length := hk;go_enter Tryz.func99, Tryz.ntmps99
 go_wp2_with fail
 rw [EX.out];refine HP.out.mono ?_;rintro e w1 ⟨rfl, rfl⟩;go_wp2
 go_ret
 exact ⟨rfl, rfl⟩
def IdxPost (ops : List (List UInt8)) (c : UInt8) (w : World) (e : Ending) (w' : World) : Prop := ∃ r : Int, e = .returned (.int .i64 r) ∧ decide (0 ≤ r) = headB ops c ∧ w = w'
theorem head_snoc (ops : List (List UInt8)) (c : UInt8) {k : Nat} {op : List UInt8} (h : ops[k]? = some op) : headB (ops.take (k + 1)) c = (headB (ops.take k) c || Lib.hasPrefix op [c]) := by
 obtain ⟨hk, e⟩ := List.getElem?_eq_some_iff.1 h;unfold headB;rw [List.take_succ_eq_append_getElem hk, e, List.any_append]; simp
theorem head_here (ops : List (List UInt8)) (c : UInt8) {k : Nat} {op : List UInt8} (h : ops[k]? = some op) (hp : Lib.hasPrefix op [c] = true) : headB ops c = true := List.any_eq_true.2 ⟨op, List.mem_of_getElem? h, hp⟩
set_option maxHeartbeats 2000000 in
theorem indexFunc_any (ops : List (List UInt8)) (a : Option Addr) (len cap : Nat) (l : List UInt8) (i : Nat) (hi : i < l.length) (hl : l.length ≤ 100000) (bs bi n₀ : Nat) (w : World) (hops : TxAt n₀ w (.slice a len cap) ops) (c0 : w.cell? ⟨bs, 0, none⟩ = some (.string ⟨l.toArray⟩)) (c1 : w.cell? ⟨bi, 0, none⟩ = some (.int .i64 (i : Int))) :
  Calls Tryz.prog 111 #[.slice a len cap, .func (.func 99) #[] #[.pointer (some ⟨bs, 0, none⟩), .pointer (some ⟨bi, 0, none⟩)]] w (IdxPost ops l[i] w) := by
 obtain ⟨hn, b, off, cp, e, _, hc⟩ := hops;injection e with e1 e2 e3
 subst e1 e2 e3;have HC := Lib.hid (fun op => cutName1_any op l i hi hl bs bi w c0 c1);generalize l[i] = c at *;have HX := Lib.hid hc;clear hc c0 c1;go_enter Tryz.func111, Tryz.ntmps111
 go_wp2
 go_loop [8] (fun j => ∃ k : Nat, k ≤ ops.length ∧ j = .int .i64 (k : Int) ∧ headB (ops.take k) c = false) (fun j => ops.length - (intOf j).toNat)
 case atStart => exact ⟨0, Nat.zero_le _, rfl, rfl⟩
 case round =>
  obtain ⟨k, hk, rfl, hP⟩ := hrel;by_cases hlt : k < ops.length
  ·
   obtain ⟨op, hop⟩ : ∃ op, ops[k]? = some op := ⟨_, List.getElem?_eq_getElem hlt⟩;have cx := HX.out k op hop;have h1 : (0 : Int) ≤ (k : Int) := by omega
   have h2 : (k : Int) < (ops.length : Int) := by omega
   have hsn := head_snoc ops c hop;rw [hP, Bool.false_or] at hsn;have SN := Lib.hid hsn;have HH := Lib.hid (head_here ops c hop);have HK := Lib.hid (HC.out op);clear hsn hop hP;cases hb : Lib.hasPrefix op [c] with
   | true =>
    rw [hb] at HK;have HBT := Lib.hid hb;clear hb;go_wp2_with fail
    refine HK.out.mono ?_;rintro e w1 ⟨rfl, rfl⟩;go_wp2
    go_ret
    exact ⟨(k : Int), rfl, by rw [HH.out HBT.out]; exact decide_eq_true (by omega), rfl⟩
   | false =>
    rw [hb] at HK SN;clear hb;go_wp2_with fail
    refine HK.out.mono ?_;rintro e w1 ⟨rfl, rfl⟩;go_wp2
    go_round
    case rel => exact ⟨k + 1, by omega, by go_num, SN.out⟩
    case measure => simp [intOf]; omega
  ·
   have h2 : ¬ (k : Int) < (ops.length : Int) := by omega
   obtain rfl : k = ops.length := by omega
   rw [List.take_length] at hP;have HP := Lib.hid hP;clear hP;go_wp2
   go_ret
   exact ⟨-1, rfl, by rw [HP.out]; rfl, rfl⟩
set_option maxHeartbeats 1000000 in
theorem bcontains_any (ops : List (List UInt8)) (a : Option Addr) (len cap : Nat) (l : List UInt8) (i : Nat) (hi : i < l.length) (hl : l.length ≤ 100000) (bs bi n₀ : Nat) (w : World) (hops : TxAt n₀ w (.slice a len cap) ops) (c0 : w.cell? ⟨bs, 0, none⟩ = some (.string ⟨l.toArray⟩)) (c1 : w.cell? ⟨bi, 0, none⟩ = some (.int .i64 (i : Int))) :
  Calls Tryz.prog 98 #[.slice a len cap, .func (.func 99) #[] #[.pointer (some ⟨bs, 0, none⟩), .pointer (some ⟨bi, 0, none⟩)]] w fun e w' => e = .returned (.bool (headB ops l[i])) ∧ w = w' := by
 have HC := Lib.hid (indexFunc_any ops a len cap l i hi hl bs bi n₀ w hops c0 c1);clear hops c0 c1;generalize l[i] = c at *;go_enter Tryz.func98, Tryz.ntmps98
 go_wp2_with fail
 refine HC.out.mono ?_;rintro e w1 ⟨r, rfl, hr, rfl⟩;have HR := Lib.hid hr;clear hr;go_wp2
 go_ret
 exact ⟨by rw [← HR.out]; rfl, rfl⟩
theorem tw_all (p : UInt8 → Bool) (l : List UInt8) (h : ∀ c ∈ l, p c = true) : l.takeWhile p = l ∧ l.dropWhile p = [] := by
 induction l with
 | nil => exact ⟨rfl, rfl⟩
 | cons a t ih =>
  have ha := h a List.mem_cons_self;obtain ⟨i1, i2⟩ := ih (fun c hc => h c (List.mem_cons_of_mem _ hc));rw [List.takeWhile_cons, List.dropWhile_cons, if_pos ha, if_pos ha, i1, i2]; exact ⟨rfl, rfl⟩
theorem cutN_at (ops : List (List UInt8)) (l : List UInt8) {k : Nat} (hk : k < l.length) (h : ∀ j, j < k → ∀ c, l[j]? = some c → headB ops c = false) (hh : headB ops l[k] = true) : cutN ops l = (l.take k, l.drop k) := by
 have e : l = l.take k ++ l[k] :: l.drop (k + 1) := by rw [← List.drop_eq_getElem_cons hk, List.take_append_drop]
 have ha : ∀ c ∈ l.take k, (fun c => !headB ops c) c = true := by
  intro c hc;obtain ⟨j, hj, e⟩ := List.mem_iff_getElem.1 hc;rw [List.length_take] at hj;show (!headB ops c) = true;rw [h j (by omega) c (by rw [← e, List.getElem_take, List.getElem?_eq_getElem (by omega)])]; rfl
 have hb : ¬ ((fun c => !headB ops c) l[k] = true) := by show ¬ (!headB ops l[k]) = true; rw [hh]; simp
 have key : cutN ops (l.take k ++ l[k] :: l.drop (k + 1)) = (l.take k, l[k] :: l.drop (k + 1)) := by
  unfold cutN;rw [List.takeWhile_append_of_pos ha, List.dropWhile_append_of_pos ha, List.takeWhile_cons, List.dropWhile_cons, if_neg hb, if_neg hb, List.append_nil]
 rw [← List.drop_eq_getElem_cons hk, List.take_append_drop] at key;exact key
theorem cutN_none (ops : List (List UInt8)) (l : List UInt8) (h : ∀ j, j < l.length → ∀ c, l[j]? = some c → headB ops c = false) : cutN ops l = (l, []) := by
 obtain ⟨a, b⟩ := tw_all (fun c => !headB ops c) l (fun c hc => by
  obtain ⟨j, hj, e⟩ := List.mem_iff_getElem.1 hc;show (!headB ops c) = true;rw [h j hj c (by rw [List.getElem?_eq_getElem hj, e])]; rfl)
 unfold cutN;rw [a, b]
end Go.Proofs.YthdoniefjmphaaaGreatDoor
/- braces.cutName walked. -/
namespace Go.Proofs.YthdoniefjmphaaaGreatDoor
open Go Go.Proofs Go.RowKit Go.Shelf
set_option maxRecDepth 100000
theorem below_dN' {B : Nat} {w v : World} (h : Below B w v) (q : Nat) : Below B w (v.drewN q) := ⟨h.os, h.tape, h.output, h.size, h.block⟩
theorem ext_front (l : List UInt8) (k : Nat) : (⟨l.toArray⟩ : ByteArray).extract 0 k = ⟨(l.take k).toArray⟩ := by
 apply bytes_mk; rw [Lib.extract_data]; simp
theorem ext_back (l : List UInt8) (k : Nat) : (⟨l.toArray⟩ : ByteArray).extract k l.length = ⟨(l.drop k).toArray⟩ := by
 apply bytes_mk; rw [Lib.extract_data]; simp; rw [List.take_of_length_le (by simp)]
set_option maxHeartbeats 4000000 in
theorem cutName_any (ops : List (List UInt8)) (a : Option Addr) (len cap : Nat) (l : List UInt8) (hl : l.length ≤ 100000) (w : World) (hops : TxAt w.heap.size w (.slice a len cap) ops) :
  Calls Tryz.prog 77 #[.string ⟨l.toArray⟩, .slice a len cap] w fun e w' => e = .returned (.tuple #[.string ⟨(cutN ops l).1.toArray⟩, .string ⟨(cutN ops l).2.toArray⟩]) ∧ Below w.heap.size w w' := by
 have HO := Lib.hid hops;have D0 := At.new w #[.string ⟨l.toArray⟩] 9;have hb0 := below_cells (w := w) (.cells #[.string ⟨l.toArray⟩] 9);clear hops;go_enter Tryz.func77, Tryz.ntmps77
 go_wp2
 go_loopw [9] (fun i wr => ∃ k : Nat, k ≤ l.length ∧ i = .int .i64 (k : Int) ∧ Below w.heap.size w wr ∧ At wr w.heap.size [.string ⟨l.toArray⟩] ∧ ∀ j, j < k → ∀ c, l[j]? = some c → headB ops c = false) (fun i _ => l.length - (intOf i).toNat)
 case atStart => exact ⟨0, Nat.zero_le _, rfl, hb0, D0, fun j h => (by omega)⟩
 case round =>
  clear D0 hb0;obtain ⟨k, hk, rfl, hb, D, hH⟩ := hrel;by_cases hlt : k < l.length
  ·
   have h1 : (0 : Int) ≤ (k : Int) := by omega
   have h2 : (k : Int) < (l.length : Int) := by omega
   have hE := At.new wr #[.int .i64 (k : Int)] 3;have hbE := below_cells (w := wr) (.cells #[.int .i64 (k : Int)] 3);have D2 := D.below hbE;have hb2 := below_then hb hbE;have HC := Lib.hid (bcontains_any ops a len cap l k hlt hl w.heap.size wr.heap.size w.heap.size (wr.alloc (.cells #[.int .i64 (k : Int)] 3)) (HO.out.below hb2) (D2.cell 0 _ rfl) (hE.cell 0 _ rfl));have HH := Lib.hid hH;have HB := Lib.hid hb2;have HD := Lib.hid D2;have HE := Lib.hid hE;have c0 := D.cell 0 _ rfl;clear hH hb hb2 D2 hE hbE D;cases hq : headB ops l[k] with
   | true =>
    rw [hq] at HC;have CN := Lib.hid (cutN_at ops l hlt HH.out hq);clear hq;go_wp2_with fail
    refine HC.out.mono ?_;rintro e w1 ⟨rfl, rfl⟩;clear HC c0;generalize wr.alloc (.cells #[.int .i64 (k : Int)] 3) = v at *;have d0 := HD.out.cell 0 _ rfl;have e0 := HE.out.cell 0 _ rfl;have h3 : (k : Int) ≤ (l.length : Int) := by omega
    go_wp2_with fail
    go_quiet (fail)
    go_wp2
    go_ret2
    refine ⟨?_, below_dN' HB.out _⟩;rw [CN.out]
    (try rw [ext_front, ext_back])
    rfl
   | false =>
    rw [hq] at HC;have NX : Hid (∀ j, j < k + 1 → ∀ c, l[j]? = some c → headB ops c = false) := by
     intro j hj c hc;rcases Nat.lt_or_ge j k with g | g
     ·
      exact HH.out j g c hc
     ·
      have : j = k := by omega
      subst this;rw [List.getElem?_eq_getElem hlt] at hc;cases hc; exact hq
    clear hq;go_wp2_with fail
    refine HC.out.mono ?_;rintro e w1 ⟨rfl, rfl⟩;go_wp2
    go_roundw
    case rel => exact ⟨k + 1, by omega, by go_num, HB.out, HD.out, NX.out⟩
    case measure => simp [intOf]; omega
  ·
   have h2 : ¬ (k : Int) < (l.length : Int) := by omega
   obtain rfl : k = l.length := by omega
   have CN := Lib.hid (cutN_none ops l hH);have c0 := D.cell 0 _ rfl;clear hH;go_wp2
   go_ret2
   exact ⟨by rw [CN.out]; rfl, hb⟩
end Go.Proofs.YthdoniefjmphaaaGreatDoor
/- braces.longest: the longest of the words that a text begins with. -/
namespace Go.Proofs.YthdoniefjmphaaaGreatDoor
open Go Go.Proofs Go.RowKit Go.Shelf
set_option maxRecDepth 100000
attribute [local go_sem] Oper.semAt_some
abbrev STx := { x : List UInt8 // x.length ≤ 100000 }
set_option maxHeartbeats 4000000 in
theorem tvalues1_in (F : Fence) (n : Nat) (hf : F.fn 112) (hro : F.round = none) (hn : 1 ≤ n) (l Bs n₀ b off cap : Nat) (zs : List STx) (hreach : zs.length ≤ 1000000) (hb : b < n₀) (J Jx : List STx → World → Prop)
  (hJa : ∀ pre W o, J pre W → J pre (W.alloc o))
  (hY : ∀ pre x W, J pre W → pre.length < zs.length → YieldAt F (n - 1) Tryz.prog l #[.string ⟨x.1.toArray⟩] W fun e W' =>
   (e = .returned (.bool true) ∧ J (pre ++ [x]) W' ∧ Below n₀ W W') ∨ (e = .returned (.bool false) ∧ Jx (pre ++ [x]) W'))
  (W : World) (hn0 : n₀ ≤ W.heap.size) (hBs : W.cell? ⟨Bs, 0, none⟩ = some (.slice (some ⟨b, off, none⟩) zs.length cap))
  (hc : ∀ j x, zs[j]? = some x → W.cell? ⟨b, off + j, none⟩ = some (.string ⟨x.1.toArray⟩)) (h0 : J [] W) :
  CallsIn F n Tryz.prog 112 #[.func (.yield l) #[] #[], .pointer (some ⟨Bs, 0, none⟩)] W fun e W' => (∃ v, e = .returned v) ∧
   ((∃ ys, ys = zs ∧ J ys W') ∨ (∃ pre, pre <+: zs ∧ Jx pre W')) := by
 refine callsIn_of_wp Tryz.func112 rfl hf ?_ hro;simp only [Tryz.ntmps112, List.size_toArray, List.length_cons, List.length_nil, Nat.reduceAdd, Nat.reduceSub, Array.replicate_succ, Array.replicate_zero, List.push_toArray, List.append_toArray, List.nil_append, List.cons_append]
 gi_wp2
 gi_loopw [7] (fun i wr => ∃ k : Nat, k ≤ zs.length ∧ i = .int .i64 (k : Int) ∧ J (zs.take k) wr ∧ Below n₀ W wr ∧ n₀ ≤ wr.heap.size)
  (fun i _ => zs.length - (intOf i).toNat)
 case atStart => exact ⟨0, Nat.zero_le _, rfl, h0, Below.refl _ _, hn0⟩
 case round =>
  obtain ⟨k, hk, rfl, hJs, hnx, hge⟩ := hrel;by_cases hlt : k < zs.length
  ·
   obtain ⟨x, hx⟩ : ∃ x, zs[k]? = some x := ⟨_, List.getElem?_eq_getElem hlt⟩;obtain ⟨hn1, he1⟩ := List.getElem?_eq_some_iff.1 hx;have htk : zs.take (k + 1) = zs.take k ++ [x] := by rw [List.take_succ_eq_append_getElem hn1, he1]
   have c0 := (hnx.cell (p := ⟨b, off + k, none⟩) hb).trans (hc k x hx);obtain ⟨fn, tmps, assign, body, hy, hR⟩ := hY _ x _ hJs (by rw [List.length_take]; omega);have h1 : (0 : Int) ≤ (k : Int) := by omega
   have h2 : (k : Int) < (zs.length : Int) := by omega
   have TK := Lib.hid htk;clear htk hx he1
   gi_wp2
   refine hR.mono ?_;rintro e W3 (⟨rfl, hJ3, hk3⟩ | ⟨rfl, hJx3⟩)
   ·
    gi_wp2
    go_roundw
    case rel => exact ⟨k + 1, by omega, by simp, by rw [TK.out]; exact hJ3, hnx.trans hk3, Nat.le_trans hge hk3.size⟩
    case measure => simp [intOf]; omega
   ·
    gi_wp2
    refine bodyPost_ret (results_none rfl _ _ _) rfl ?_;exact ⟨⟨_, rfl⟩, .inr ⟨_, by rw [← TK.out]; exact List.take_prefix _ _, hJx3⟩⟩
  ·
   obtain rfl : k = zs.length := by omega
   gi_wp2
   go_end0
   rw [List.take_length] at hJs;exact ⟨⟨_, rfl⟩, .inl ⟨_, rfl, hJs⟩⟩
theorem tvalues_in (F : Fence) (n : Nat) (hf : F.fn 101) (hro : F.round = none) (a : Option Addr) (len cap : Nat) (w : World) :
  CallsIn F n Tryz.prog 101 #[.slice a len cap] w fun e w' => e = .returned (.func (.func 112) #[] #[.pointer (some ⟨w.heap.size, 0, none⟩)]) ∧ w' = w.alloc (.cells #[.slice a len cap] 88) := by
 refine callsIn_of_wp Tryz.func101 rfl hf ?_ hro;simp only [Tryz.ntmps101, List.size_toArray, List.length_cons, List.length_nil, Nat.reduceAdd, Nat.reduceSub, Array.replicate_succ, Array.replicate_zero, List.push_toArray, List.append_toArray, List.nil_append, List.cons_append]
 gi_wp2
 go_ret
 exact ⟨rfl, rfl⟩
theorem tvalues_stops (F : Fence) (n : Nat) (hf : F.fn 112) (hro : F.round = none) (hn : 1 ≤ n) (Bs n₀ : Nat) (sv : Value) (zs : List STx) (w : World) (hBs : Bs < w.heap.size) (hn₀ : n₀ ≤ w.heap.size)
  (hc : w.cell? ⟨Bs, 0, none⟩ = some sv) (hI : TxAt n₀ w sv (zs.map (·.1))) :
  SeqStopsK F n Tryz.prog 112 #[.pointer (some ⟨Bs, 0, none⟩)] (fun x : STx => #[.string ⟨x.1.toArray⟩]) (Below n₀) (fun ys => ys = zs) (fun pre => pre <+: zs) zs.length w := fun l J Jx W hW hJ _ hY h0 => by
 have hc' := (hW.cell (p := ⟨Bs, 0, none⟩) hBs).trans hc;obtain ⟨hl, b, off, cap, rfl, hb, hcs⟩ := hI.below (hW.mono hn₀);rw [List.length_map] at hl hc';exact (tvalues1_in F n hf hro hn l Bs n₀ b off cap zs (by omega) hb J Jx (fun pre W1 o h => hJ pre W1 (W1.alloc o) none h (World.grownBy_alloc _ _ none) (fun r e => by cases e)) hY W (Nat.le_trans hn₀ hW.size) hc' (fun j x hj => hcs j x.1 (by rw [List.getElem?_map, hj]; rfl)) h0).mono fun e W' h => h
theorem fold_snoc (s : List UInt8) (pre : List STx) (x : STx) : ((pre ++ [x]).map (·.1)).foldl (longF s) [] = longF s ((pre.map (·.1)).foldl (longF s) []) x.1 := by rw [List.map_append, List.foldl_append]; rfl
theorem fold_short (s : List UInt8) (pre : List STx) : ((pre.map (·.1)).foldl (longF s) []).length ≤ 100000 := by
 have key : ∀ (p : List STx) (f : List UInt8), f.length ≤ 100000 → ((p.map (·.1)).foldl (longF s) f).length ≤ 100000 := by
  intro p;induction p with
  | nil => intro f h; exact h
  | cons x t ih =>
   intro f h;rw [List.map_cons, List.foldl_cons];refine ih _ ?_;unfold longF;split
   ·
    exact x.2
   ·
    exact h
 exact key pre [] (by simp)
set_option maxHeartbeats 4000000 in
theorem longest_any (zs : List STx) (a : Option Addr) (len cap : Nat) (s : List UInt8) (hs : s.length ≤ 100000) (w : World) (hI : TxAt w.heap.size w (.slice a len cap) (zs.map (·.1))) :
  Calls Tryz.prog 78 #[.string ⟨s.toArray⟩, .slice a len cap] w fun e w' => e = .returned (.string ⟨(longR (zs.map (·.1)) s).toArray⟩) ∧ Below w.heap.size w w' := by
 refine (callsIn_wide (n := 9)).1 ?_;refine callsIn_of_wp_marks Tryz.func78 rfl trivial ?_ rfl;simp only [Tryz.ntmps78, List.size_toArray, List.length_cons, List.length_nil, Nat.reduceAdd, Nat.reduceSub, Array.replicate_succ, Array.replicate_zero, List.push_toArray, List.append_toArray, List.nil_append, List.cons_append]
 gi_wp2
 refine ⟨trivial, (tvalues_in Fence.wide 8 trivial rfl _ _ _ _).mono ?_⟩;rintro e w1 ⟨rfl, rfl⟩
 gi_wp2
 obtain ⟨W0, hW0⟩ : ∃ W0, (((w.alloc (.cells #[.string ⟨s.toArray⟩] 9)).alloc (.cells #[.string ⟨#[]⟩] 9)).alloc (.cells #[.slice a len cap] 88)) = W0 := ⟨_, rfl⟩;have hlp : Below w.heap.size w W0 := by rw [← hW0]; go_grown
 have hsz : W0.heap.size = w.heap.size + 3 := by rw [← hW0]; simp
 have bn0 : Boxed W0 w.heap.size 9 (.string ⟨s.toArray⟩) := by
  rw [← hW0];exact ((Boxed.new w 9 (.string ⟨s.toArray⟩)).alloc _).alloc _
 have br0 : Boxed W0 (w.heap.size + 1) 9 (.string ⟨#[]⟩) := by
  rw [← hW0];have h := Boxed.new (w.alloc (.cells #[.string ⟨s.toArray⟩] 9)) 9 (.string ⟨#[]⟩);rw [World.size_alloc] at h;exact h.alloc _
 have bs0 : W0.cell? ⟨w.heap.size + 1 + 1, 0, none⟩ = some (.slice a len cap) := by
  rw [← hW0];have h := cell_one_new ((w.alloc (.cells #[.string ⟨s.toArray⟩] 9)).alloc (.cells #[.string ⟨#[]⟩] 9)) (.slice a len cap) 88 0 _ rfl;simpa [Addr.add] using h
 have hI0 := hI.below hlp;rw [hW0];clear hW0 hI;refine wpIn_rangeFunc_ownH (F := Fence.wide) (n := 9) rfl (by omega) (gf := 112) (lb := #[.pointer (some ⟨w.heap.size + 1 + 1, 0, none⟩)]) rfl trivial (enters_of Tryz.func112 (by kernel_rfl) rfl)
  (encs := fun x : STx => #[.string ⟨x.1.toArray⟩]) (Kp := Below w.heap.size) (tvalues_stops Fence.wide (9 - 1) trivial rfl (by omega) (w.heap.size + 1 + 1) w.heap.size (.slice a len cap) zs W0 (by omega) (by omega) bs0 hI0) belowK_t (belowK_b (by omega)) (Below.refl _ _) (fun _ => rfl)
  (fun pre W => Boxed W w.heap.size 9 (.string ⟨s.toArray⟩) ∧ Boxed W (w.heap.size + 1) 9 (.string ⟨((pre.map (·.1)).foldl (longF s) []).toArray⟩) ∧ Below w.heap.size w W)
  (fun _ _ _ => False)
  (OwnFrom.and (Own.from (boxed_own w.heap.size 9 (fun _ => .string ⟨s.toArray⟩)) _) (OwnFrom.and (Own.from (boxed_own (w.heap.size + 1) 9 (fun (pre : List STx) => .string ⟨((pre.map (·.1)).foldl (longF s) []).toArray⟩)) _) (ownFrom_below (Nat.le_refl _) (by rw [hsz]; omega))))
  (fun _ _ _ _ _ hs _ _ => hs)
  ⟨bn0, br0, hlp⟩
  (fun x a' _ => a' = { tmps := #[.string ⟨s.toArray⟩, .slice a len cap, .pointer (some ⟨w.heap.size, 0, none⟩), undef, .string ⟨#[]⟩, .pointer (some ⟨w.heap.size + 1, 0, none⟩), .string ⟨x.1.toArray⟩, .slice a len cap, .func (.func 112) #[] #[.pointer (some ⟨w.heap.size + 1 + 1, 0, none⟩)], .string ⟨x.1.toArray⟩, undef, undef, undef, undef, undef, undef, undef, undef, undef, undef, undef, undef], defers := [] })
  (fun x a' => ?ax) ?assign ?body ?done ?stop
 case ax => exact fun s X Y row q hg hr => q
 case assign =>
  rintro l pre x W K ⟨hn, hr0, hB⟩ hK
  gi_wp2
  exact hK _ _ ((KeepsOthers.refl _).from _) (Below.refl _ _) ⟨hn, hr0, hB⟩ rfl
 case body =>
  rintro l pre x a' W hl ⟨r, hr⟩ ⟨hn, hr0, hB⟩ rfl hlen;obtain ⟨xn, hx⟩ := x;have c3 := hn.cell;have c4 := hr0.cell;have f4 := hr0.frozen;have FS := Lib.hid (fold_snoc s pre ⟨xn, hx⟩);have hfl := fold_short s pre;have HP := Lib.hid ((Tryz.strings_HasPrefix ⟨s.toArray⟩ ⟨xn.toArray⟩ W));have HN := Lib.hid hn;have HR := Lib.hid hr0;have HB := Lib.hid hB;clear hn hr0 hB;generalize (pre.map (·.1)).foldl (longF s) [] = f at *;by_cases he : f.length < xn.length
  ·
   have e1 : decide ((f.length : Int) < (xn.length : Int)) = true := decide_eq_true (by omega);have e2 : decide (f.length < xn.length) = true := decide_eq_true he;cases hp : Lib.hasPrefix s xn with
   | true =>
    have HP2 : Hid (Calls Tryz.prog 100 #[.string ⟨s.toArray⟩, .string ⟨xn.toArray⟩] W fun e w' => e = .returned (.bool true) ∧ w' = W) := HP.out.mono fun _ _ h => ⟨by rw [h.1]; show Ending.returned (.bool (Lib.hasPrefix s xn)) = _; rw [hp], h.2⟩
    have LF : Hid (longF s f xn = xn) := if_pos ⟨he, hp⟩;clear hp HP
    gi_wp2
    refine ⟨trivial, (CallsIn.inRound l (callsIn_wide.2 HP2.out)).mono ?_⟩;rintro e w2 ⟨rfl, rfl⟩
    gi_wp2
    refine ⟨(KeepsOthers.setCell _ _ _).from _, (Below.refl _ _).setCell (by simp) _, HN.out.other (by omega) _, ?_, HB.out.setCell (by simp) _⟩;rw [FS.out, LF.out];exact HR.out.set _
   | false =>
    have HP2 : Hid (Calls Tryz.prog 100 #[.string ⟨s.toArray⟩, .string ⟨xn.toArray⟩] W fun e w' => e = .returned (.bool false) ∧ w' = W) := HP.out.mono fun _ _ h => ⟨by rw [h.1]; show Ending.returned (.bool (Lib.hasPrefix s xn)) = _; rw [hp], h.2⟩
    have LF : Hid (longF s f xn = f) := if_neg (by rw [hp]; simp);clear hp HP
    gi_wp2
    refine ⟨trivial, (CallsIn.inRound l (callsIn_wide.2 HP2.out)).mono ?_⟩;rintro e w2 ⟨rfl, rfl⟩
    gi_wp2
    exact ⟨(KeepsOthers.refl _).from _, Below.refl _ _, HN.out, by rw [FS.out, LF.out]; exact HR.out, HB.out⟩
  ·
   have e1 : decide ((f.length : Int) < (xn.length : Int)) = false := decide_eq_false (by omega);have e2 : decide (f.length < xn.length) = false := decide_eq_false he;have LF : Hid (longF s f xn = f) := if_neg (fun q => he q.1);clear HP
   gi_wp2
   refine ⟨trivial, ?_⟩
   gi_wp2
   exact ⟨(KeepsOthers.refl _).from _, Below.refl _ _, HN.out, by rw [FS.out, LF.out]; exact HR.out, HB.out⟩
 case done =>
  rintro D ys W hD rfl ⟨hn, hr0, hB⟩ hK;have c4 := hr0.cell
  gi_wp2
  refine ⟨by simp, .inl ⟨_, _, rfl, run_takeDeferred hK, ?_⟩⟩;exact ⟨.string ⟨((ys.map (·.1)).foldl (longF s) []).toArray⟩, by simp [results, Tryz.f78, go_sem], rfl, hB.trans (belowK_b (w := w) (Nat.le_refl _) W D _ _ (by rw [hsz] at hD; omega) hK rfl rfl)⟩
 case stop => exact fun D c pre W hD hpre hf hK => hf.elim
end Go.Proofs.YthdoniefjmphaaaGreatDoor
