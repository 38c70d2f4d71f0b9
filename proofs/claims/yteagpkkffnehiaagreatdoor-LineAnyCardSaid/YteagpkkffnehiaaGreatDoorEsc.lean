/- label.appendEscaped: a text behind bytes, escaped. -/
import Derived.Test.YteagpkkffnehiaaGreatDoorName
import Derived.Lib.AppendStr
import Derived.Laws.IdiomStrings
import Derived.Lib.OthersKept
import Derived.Lib.UnsafeStr
import Derived.Laws.AppendOwn
import Derived.Maps.AppendAt
import Derived.RangeFuncBox
namespace Go.Proofs.YteagpkkffnehiaaGreatDoor
open Go Go.Proofs Go.RowKit Go.Shelf Go.Lib
set_option maxRecDepth 100000
theorem info_u8 : (Tryz.prog.info? 5).map (fun i => (i.zero, i.size, i.bytes)) = some (some (.int .u8 0), 1, 1) := by kernel_rfl
def escC (c : UInt8) : List UInt8 := if c.toNat = 34 ∨ c.toNat = 92 then [92, c] else [c]
def escR (l : List UInt8) : List UInt8 := l.flatMap escC
theorem escR_snoc (l : List UInt8) (c : UInt8) : escR (l ++ [c]) = escR l ++ escC c := by unfold escR; simp
theorem escC_len (c : UInt8) : (escC c).length ≤ 2 := by unfold escC; split <;> simp
theorem escR_len (l : List UInt8) : (escR l).length ≤ 2 * l.length := by
  induction l with
  | nil => simp [escR]
  | cons c t ih =>
    have := escC_len c
    unfold escR at *
    rw [List.flatMap_cons, List.length_append, List.length_cons]
    omega
/-- a row of bytes that the call owns, in a world that came of w -/
structure EW (w : World) (base : Nat) (v : Value) (S : List UInt8) (W : World) : Prop where
  own : W.ownsRow base 5 1 v S.length (byteCells S)
  bel : Below base w W
  oth : OthersKept 5 none w W
  ge : base ≤ W.heap.size
theorem EW.app {w W W' : World} {base : Nat} {v v' : Value} {S X : List UInt8} (h : EW w base v S W) (o : Obj) (own : W'.ownsRow base 5 1 v' (S.length + X.length) (byteCells S ++ byteCells X)) (g : (W.alloc o).grownBy W' v.ownBlock) : EW w base v' (S ++ X) W' := by
  have hk : ∀ i, v.ownBlock = some i → base ≤ i ∧ ∃ c fz, (W.alloc o).heap[i]? = some (.cells c 5 fz) := by
    intro i e
    rcases h.own.2 with ⟨rfl, _⟩ | ⟨gg, cap, cur, rfl, hb, hgb, _⟩
    · simp [Value.ownBlock] at e
    · obtain rfl : gg = i := by simpa [Value.ownBlock] using e
      exact ⟨hb, _, _, (Below.heap_alloc W o gg (Array.getElem?_eq_some_iff.1 hgb).1).trans hgb⟩
  refine ⟨?_, (h.bel.alloc h.ge o).grown g (by have := h.ge; simp; omega) (fun i e => (hk i e).1), (h.oth.alloc o).grown g (fun i e => (hk i e).2), ?_⟩
  · rw [List.length_append, show byteCells (S ++ X) = byteCells S ++ byteCells X by simp [byteCells]]; exact own
  · have := g.size; have := h.ge; simp at *; omega
set_option maxHeartbeats 4000000 in
theorem esc_at (base : Nat) (v : Value) (S l : List UInt8) (s : ByteArray) (hud : s.data.toList = l) (hl : l.length ≤ 100000) (hS : S.length ≤ 100000) (w w0 : World) (h : EW w0 base v S w) :
    Calls Tryz.prog 55 #[v, .string s] w fun e w' => ∃ v', e = .returned v' ∧ EW w0 base v' (S ++ escR l) w' := by
  obtain ⟨i0, hi, hz0, hz1, hz2⟩ := info_parts info_u8
  have HI := Lib.hid hi
  have HZ := Lib.hid hz0
  have HZ1 := Lib.hid hz1
  have HZ2 := Lib.hid hz2
  have H := Lib.hid h
  have hsz : s.size = l.length := by rw [Lib.size_eq, hud]
  have HU := Lib.hid hud
  clear hi hz0 hz1 hz2 h hud
  go_enter Tryz.func55, Tryz.ntmps55
  go_wp2
  go_loopw [0, 8] (fun v1 i wr => ∃ k : Nat, k ≤ l.length ∧ i = .int .i64 (k : Int) ∧ EW w0 base v1 (S ++ escR (l.take k)) wr) (fun _ i _ => l.length - (RowKit.intOf i).toNat)
  case atStart => exact ⟨0, Nat.zero_le _, rfl, by simpa [escR] using H.out⟩
  case round =>
    obtain ⟨k, hk, rfl, hE⟩ := hrel
    have E := Lib.hid hE
    clear hE
    by_cases hlt : k < l.length
    · have hi : k < s.size := by omega
      obtain ⟨c, hc⟩ : ∃ c : UInt8, s[k]'hi = c := ⟨_, rfl⟩
      have hcl : l[k]? = some c := by rw [← HU.out, ← hc]; exact Lib.data_getElem? s k hi
      have hsn : escR (l.take (k + 1)) = escR (l.take k) ++ escC c := by
        obtain ⟨hn, he⟩ := List.getElem?_eq_some_iff.1 hcl
        rw [List.take_succ_eq_append_getElem hn, he, escR_snoc]
      have hlen := escR_len (l.take k)
      rw [List.length_take] at hlen
      have h0 : (0 : Int) ≤ (k : Int) := by omega
      have h1 : (k : Int) < (l.length : Int) := by omega
      have h2 : (k : Int) < (s.size : Int) := by omega
      have SN := Lib.hid hsn
      clear hsn hcl
      obtain ⟨R, hR⟩ : ∃ R, escR (l.take k) = R := ⟨_, rfl⟩
      rw [hR] at SN E hlen
      clear hR
      obtain ⟨T, hT⟩ : ∃ T, S ++ R = T := ⟨_, rfl⟩
      have hRl : T.length ≤ 300000 := by rw [← hT, List.length_append]; omega
      rw [hT] at E
      have TT := Lib.hid hT
      clear hT
      by_cases q : c.toNat = 34 ∨ c.toNat = 92
      · have EC : Hid (escC c = [92, c]) := by unfold Hid escC; rw [if_pos q]
        rcases q with q | q
        · obtain rfl : c = 34 := UInt8.toNat.inj q
          go_wp2_with (at_builtin; refine wpList_append_own _ rfl (.tmp 21) (.tmp 22) 56 rfl base 5 i0 (.int .u8 0) 1 1 Tryz.underlying56 HI.out HZ.out HZ1.out HZ2.out rfl (by decide) _ _ _ rfl (E.out.own.alloc _) _ 1 1 [.int .u8 92] rfl rfl ?pa1 ?pa2 ?pa3 ?pa4 ?pa5 ?_)
          case pa1 => intro j u hj; match j, hj with | 0, hj => simp at hj; subst hj; rw [Addr.add_lit]; simp
          case pa2 => intro u hu; simp at hu; subst hu; rfl
          case pa3 => unfold maxLen; omega
          case pa4 => omega
          case pa5 => have := E.out.ge; simp; omega
          intro vpa wpa hownpa hgrowpa _
          have Fp := E.out.app (X := [92]) _ hownpa hgrowpa
          clear hownpa hgrowpa
          obtain ⟨T2, hT2⟩ : ∃ T2, T ++ [92] = T2 := ⟨_, rfl⟩
          have hT2l : T2.length ≤ 300001 := by rw [← hT2, List.length_append]; simp only [List.length_cons, List.length_nil]; omega
          rw [hT2] at Fp
          have TT2 := Lib.hid hT2
          have Fp := Lib.hid Fp
          clear hT2
          go_wp2_with (at_builtin; refine wpList_append_own _ rfl (.tmp 24) (.tmp 28) 56 rfl base 5 i0 (.int .u8 0) 1 1 Tryz.underlying56 HI.out HZ.out HZ1.out HZ2.out rfl (by decide) _ _ _ rfl (Fp.out.own.alloc _) _ 1 1 [.int .u8 34] rfl rfl ?pb1 ?pb2 ?pb3 ?pb4 ?pb5 ?_)
          case pb1 => intro j u hj; match j, hj with | 0, hj => simp at hj; subst hj; rw [Addr.add_lit]; simp
          case pb2 => intro u hu; simp at hu; subst hu; rfl
          case pb3 => unfold maxLen; omega
          case pb4 => omega
          case pb5 => have := Fp.out.ge; simp; omega
          intro vpb wpb hownpb hgrowpb _
          have Gp := Lib.hid (Fp.out.app (X := [34]) _ hownpb hgrowpb)
          clear hownpb hgrowpb
          go_wp2
          go_roundw
          case rel => exact ⟨k + 1, by omega, by go_num, by rw [SN.out, EC.out, ← List.append_assoc, TT.out]; have := Gp.out; rw [← TT2.out, List.append_assoc] at this; exact this⟩
          case measure => simp [RowKit.intOf]; omega
        · obtain rfl : c = 92 := UInt8.toNat.inj q
          go_wp2_with (at_builtin; refine wpList_append_own _ rfl (.tmp 21) (.tmp 22) 56 rfl base 5 i0 (.int .u8 0) 1 1 Tryz.underlying56 HI.out HZ.out HZ1.out HZ2.out rfl (by decide) _ _ _ rfl (E.out.own.alloc _) _ 1 1 [.int .u8 92] rfl rfl ?qa1 ?qa2 ?qa3 ?qa4 ?qa5 ?_)
          case qa1 => intro j u hj; match j, hj with | 0, hj => simp at hj; subst hj; rw [Addr.add_lit]; simp
          case qa2 => intro u hu; simp at hu; subst hu; rfl
          case qa3 => unfold maxLen; omega
          case qa4 => omega
          case qa5 => have := E.out.ge; simp; omega
          intro vqa wqa hownqa hgrowqa _
          have Fq := E.out.app (X := [92]) _ hownqa hgrowqa
          clear hownqa hgrowqa
          obtain ⟨T2, hT2⟩ : ∃ T2, T ++ [92] = T2 := ⟨_, rfl⟩
          have hT2l : T2.length ≤ 300001 := by rw [← hT2, List.length_append]; simp only [List.length_cons, List.length_nil]; omega
          rw [hT2] at Fq
          have TT2 := Lib.hid hT2
          have Fq := Lib.hid Fq
          clear hT2
          go_wp2_with (at_builtin; refine wpList_append_own _ rfl (.tmp 24) (.tmp 28) 56 rfl base 5 i0 (.int .u8 0) 1 1 Tryz.underlying56 HI.out HZ.out HZ1.out HZ2.out rfl (by decide) _ _ _ rfl (Fq.out.own.alloc _) _ 1 1 [.int .u8 92] rfl rfl ?qb1 ?qb2 ?qb3 ?qb4 ?qb5 ?_)
          case qb1 => intro j u hj; match j, hj with | 0, hj => simp at hj; subst hj; rw [Addr.add_lit]; simp
          case qb2 => intro u hu; simp at hu; subst hu; rfl
          case qb3 => unfold maxLen; omega
          case qb4 => omega
          case qb5 => have := Fq.out.ge; simp; omega
          intro vqb wqb hownqb hgrowqb _
          have Gq := Lib.hid (Fq.out.app (X := [92]) _ hownqb hgrowqb)
          clear hownqb hgrowqb
          go_wp2
          go_roundw
          case rel => exact ⟨k + 1, by omega, by go_num, by rw [SN.out, EC.out, ← List.append_assoc, TT.out]; have := Gq.out; rw [← TT2.out, List.append_assoc] at this; exact this⟩
          case measure => simp [RowKit.intOf]; omega
      · have EC : Hid (escC c = [c]) := by unfold Hid escC; rw [if_neg q]
        have n1 : ((c.toNat : Int) == 34) = false := by rw [beq_eq_false_iff_ne]; omega
        have n2 : ((c.toNat : Int) == 92) = false := by rw [beq_eq_false_iff_ne]; omega
        go_wp2_with (at_builtin; refine wpList_append_own _ rfl (.tmp 24) (.tmp 28) 56 rfl base 5 i0 (.int .u8 0) 1 1 Tryz.underlying56 HI.out HZ.out HZ1.out HZ2.out rfl (by decide) _ _ _ rfl (E.out.own.alloc _) _ 1 1 [.int .u8 (c.toNat : Int)] rfl rfl ?rb1 ?rb2 ?rb3 ?rb4 ?rb5 ?_)
        case rb1 => intro j u hj; match j, hj with | 0, hj => simp at hj; subst hj; rw [Addr.add_lit]; simp
        case rb2 => intro u hu; simp at hu; subst hu; rfl
        case rb3 => unfold maxLen; omega
        case rb4 => omega
        case rb5 => have := E.out.ge; simp; omega
        intro vrb wrb hownrb hgrowrb _
        have Gr := Lib.hid (E.out.app (X := [c]) _ hownrb hgrowrb)
        clear hownrb hgrowrb
        go_wp2
        go_roundw
        case rel => exact ⟨k + 1, by omega, by go_num, by rw [SN.out, EC.out, ← List.append_assoc, TT.out]; have := Gr.out; simpa using this⟩
        case measure => simp [RowKit.intOf]; omega
    · obtain rfl : k = l.length := by omega
      have h1 : ¬ (l.length : Int) < (s.size : Int) := by omega
      rw [List.take_length] at E
      go_wp2
      go_ret
      exact ⟨_, rfl, E.out⟩
theorem esc_any (base : Nat) (v : Value) (S l : List UInt8) (hl : l.length ≤ 100000) (hS : S.length ≤ 100000) (w w0 : World) (h : EW w0 base v S w) :
    Calls Tryz.prog 55 #[v, .string ⟨l.toArray⟩] w fun e w' => ∃ v', e = .returned v' ∧ EW w0 base v' (S ++ escR l) w' :=
  esc_at base v S l ⟨l.toArray⟩ rfl hl hS w w0 h
end Go.Proofs.YteagpkkffnehiaaGreatDoor
