/- words.Quote: a text between two signs. -/
import Derived.Test.YtgldieboflmnhaaGreatDoorTakeE
namespace Go.Proofs.YtgldieboflmnhaaGreatDoor
open Go Go.Proofs Go.RowKit Go.Shelf Go.Lib
set_option maxRecDepth 100000
def quoR (l : List UInt8) : List UInt8 := 34 :: escR l ++ [34]
set_option maxHeartbeats 4000000 in
theorem quote_at (s : ByteArray) (l : List UInt8) (hud : s.data.toList = l) (hl : l.length ≤ 100000) (w : World) :
    Calls Tryz.prog 54 #[.string s] w fun e w' => e = .returned (.string ⟨(quoR l).toArray⟩) ∧ Below w.heap.size w w' := by
  obtain ⟨i0, hi, hz0, hz1, hz2⟩ := info_parts info_u8
  have HI := Lib.hid hi
  have HZ := Lib.hid hz0
  have HZ1 := Lib.hid hz1
  have HZ2 := Lib.hid hz2
  have hsz : s.size = l.length := by rw [Lib.size_eq, hud]
  have HU := Lib.hid hud
  clear hi hz0 hz1 hz2 hud
  have E0 : EW w w.heap.size (.slice (some ⟨w.heap.size, 0, none⟩) 1 1) [34] (w.alloc (.cells #[.int .u8 34] 5)) :=
    ⟨⟨rfl, .inr ⟨w.heap.size, 1, #[.int .u8 34], rfl, Nat.le_refl _, heap_alloc_new w _, Nat.le_refl _, by unfold maxLen; omega, rfl, rfl⟩⟩, below_cells _, (Lib.OthersKept.refl _ _ _).alloc _, by simp⟩
  have H := Lib.hid E0
  clear E0
  go_enter Tryz.func54, Tryz.ntmps54
  go_wp2
  go_loopw [3, 8] (fun v1 i wr => ∃ k : Nat, k ≤ l.length ∧ i = .int .i64 (k : Int) ∧ EW w w.heap.size v1 (34 :: escR (l.take k)) wr) (fun _ i _ => l.length - (RowKit.intOf i).toNat)
  case atStart => exact ⟨0, Nat.zero_le _, rfl, by simpa [escR] using H.out⟩
  case round =>
    obtain ⟨k, hk, rfl, hE⟩ := hrel
    have E := Lib.hid hE
    clear hE
    by_cases hlt : k < l.length
    · have hi : k < s.size := by omega
      obtain ⟨c, hc⟩ : ∃ c : UInt8, s[k]'hi = c := ⟨_, rfl⟩
      have hcl : l[k]? = some c := by rw [← HU.out, ← hc]; exact Lib.data_getElem? s k hi
      have hsn : escR (l.take (k + 1)) = escR (l.take k) ++ escC c := by
        obtain ⟨hn, he⟩ := List.getElem?_eq_some_iff.1 hcl
        rw [List.take_succ_eq_append_getElem hn, he, escR_snoc]
      have hlen := escR_len (l.take k)
      rw [List.length_take] at hlen
      have h0 : (0 : Int) ≤ (k : Int) := by omega
      have h1 : (k : Int) < (l.length : Int) := by omega
      have h2 : (k : Int) < (s.size : Int) := by omega
      have SN := Lib.hid hsn
      clear hsn hcl
      obtain ⟨R, hR⟩ : ∃ R, escR (l.take k) = R := ⟨_, rfl⟩
      rw [hR] at SN E hlen
      clear hR
      obtain ⟨T, hT⟩ : ∃ T, 34 :: R = T := ⟨_, rfl⟩
      have hRl : T.length ≤ 300000 := by rw [← hT, List.length_cons]; omega
      rw [hT] at E
      have TT := Lib.hid hT
      clear hT
      by_cases q : c.toNat = 34 ∨ c.toNat = 92
      · have EC : Hid (escC c = [92, c]) := by unfold Hid escC; rw [if_pos q]
        rcases q with q | q
        · obtain rfl : c = 34 := UInt8.toNat.inj q
          go_wp2_with (at_builtin; refine wpList_append_own _ rfl (.tmp 21) (.tmp 22) 56 rfl w.heap.size 5 i0 (.int .u8 0) 1 1 Tryz.underlying56 HI.out HZ.out HZ1.out HZ2.out rfl (by decide) _ _ _ rfl (E.out.own.alloc _) _ 1 1 [.int .u8 92] rfl rfl ?pa1 ?pa2 ?pa3 ?pa4 ?pa5 ?_)
          case pa1 => intro j u hj; match j, hj with | 0, hj => simp at hj; subst hj; rw [Addr.add_lit]; simp
          case pa2 => intro u hu; simp at hu; subst hu; rfl
          case pa3 => unfold maxLen; omega
          case pa4 => omega
          case pa5 => have := E.out.ge; simp; omega
          intro vpa wpa hownpa hgrowpa _
          have Fp := E.out.app (X := [92]) _ hownpa hgrowpa
          clear hownpa hgrowpa
          obtain ⟨T2, hT2⟩ : ∃ T2, T ++ [92] = T2 := ⟨_, rfl⟩
          have hT2l : T2.length ≤ 300001 := by rw [← hT2, List.length_append]; simp only [List.length_cons, List.length_nil]; omega
          rw [hT2] at Fp
          have TT2 := Lib.hid hT2
          have Fp := Lib.hid Fp
          clear hT2
          go_wp2_with (at_builtin; refine wpList_append_own _ rfl (.tmp 24) (.tmp 28) 56 rfl w.heap.size 5 i0 (.int .u8 0) 1 1 Tryz.underlying56 HI.out HZ.out HZ1.out HZ2.out rfl (by decide) _ _ _ rfl (Fp.out.own.alloc _) _ 1 1 [.int .u8 34] rfl rfl ?pb1 ?pb2 ?pb3 ?pb4 ?pb5 ?_)
          case pb1 => intro j u hj; match j, hj with | 0, hj => simp at hj; subst hj; rw [Addr.add_lit]; simp
          case pb2 => intro u hu; simp at hu; subst hu; rfl
          case pb3 => unfold maxLen; omega
          case pb4 => omega
          case pb5 => have := Fp.out.ge; simp; omega
          intro vpb wpb hownpb hgrowpb _
          have Gp := Lib.hid (Fp.out.app (X := [34]) _ hownpb hgrowpb)
          clear hownpb hgrowpb
          go_wp2
          go_roundw
          case rel => exact ⟨k + 1, by omega, by go_num, by rw [SN.out, EC.out, ← List.cons_append, TT.out]; have := Gp.out; rw [← TT2.out, List.append_assoc] at this; exact this⟩
          case measure => simp [RowKit.intOf]; omega
        · obtain rfl : c = 92 := UInt8.toNat.inj q
          go_wp2_with (at_builtin; refine wpList_append_own _ rfl (.tmp 21) (.tmp 22) 56 rfl w.heap.size 5 i0 (.int .u8 0) 1 1 Tryz.underlying56 HI.out HZ.out HZ1.out HZ2.out rfl (by decide) _ _ _ rfl (E.out.own.alloc _) _ 1 1 [.int .u8 92] rfl rfl ?qa1 ?qa2 ?qa3 ?qa4 ?qa5 ?_)
          case qa1 => intro j u hj; match j, hj with | 0, hj => simp at hj; subst hj; rw [Addr.add_lit]; simp
          case qa2 => intro u hu; simp at hu; subst hu; rfl
          case qa3 => unfold maxLen; omega
          case qa4 => omega
          case qa5 => have := E.out.ge; simp; omega
          intro vqa wqa hownqa hgrowqa _
          have Fq := E.out.app (X := [92]) _ hownqa hgrowqa
          clear hownqa hgrowqa
          obtain ⟨T2, hT2⟩ : ∃ T2, T ++ [92] = T2 := ⟨_, rfl⟩
          have hT2l : T2.length ≤ 300001 := by rw [← hT2, List.length_append]; simp only [List.length_cons, List.length_nil]; omega
          rw [hT2] at Fq
          have TT2 := Lib.hid hT2
          have Fq := Lib.hid Fq
          clear hT2
          go_wp2_with (at_builtin; refine wpList_append_own _ rfl (.tmp 24) (.tmp 28) 56 rfl w.heap.size 5 i0 (.int .u8 0) 1 1 Tryz.underlying56 HI.out HZ.out HZ1.out HZ2.out rfl (by decide) _ _ _ rfl (Fq.out.own.alloc _) _ 1 1 [.int .u8 92] rfl rfl ?qb1 ?qb2 ?qb3 ?qb4 ?qb5 ?_)
          case qb1 => intro j u hj; match j, hj with | 0, hj => simp at hj; subst hj; rw [Addr.add_lit]; simp
          case qb2 => intro u hu; simp at hu; subst hu; rfl
          case qb3 => unfold maxLen; omega
          case qb4 => omega
          case qb5 => have := Fq.out.ge; simp; omega
          intro vqb wqb hownqb hgrowqb _
          have Gq := Lib.hid (Fq.out.app (X := [92]) _ hownqb hgrowqb)
          clear hownqb hgrowqb
          go_wp2
          go_roundw
          case rel => exact ⟨k + 1, by omega, by go_num, by rw [SN.out, EC.out, ← List.cons_append, TT.out]; have := Gq.out; rw [← TT2.out, List.append_assoc] at this; exact this⟩
          case measure => simp [RowKit.intOf]; omega
      · have EC : Hid (escC c = [c]) := by unfold Hid escC; rw [if_neg q]
        have n1 : ((c.toNat : Int) == 34) = false := by rw [beq_eq_false_iff_ne]; omega
        have n2 : ((c.toNat : Int) == 92) = false := by rw [beq_eq_false_iff_ne]; omega
        go_wp2_with (at_builtin; refine wpList_append_own _ rfl (.tmp 24) (.tmp 28) 56 rfl w.heap.size 5 i0 (.int .u8 0) 1 1 Tryz.underlying56 HI.out HZ.out HZ1.out HZ2.out rfl (by decide) _ _ _ rfl (E.out.own.alloc _) _ 1 1 [.int .u8 (c.toNat : Int)] rfl rfl ?rb1 ?rb2 ?rb3 ?rb4 ?rb5 ?_)
        case rb1 => intro j u hj; match j, hj with | 0, hj => simp at hj; subst hj; rw [Addr.add_lit]; simp
        case rb2 => intro u hu; simp at hu; subst hu; rfl
        case rb3 => unfold maxLen; omega
        case rb4 => omega
        case rb5 => have := E.out.ge; simp; omega
        intro vrb wrb hownrb hgrowrb _
        have Gr := Lib.hid (E.out.app (X := [c]) _ hownrb hgrowrb)
        clear hownrb hgrowrb
        go_wp2
        go_roundw
        case rel => exact ⟨k + 1, by omega, by go_num, by rw [SN.out, EC.out, ← List.cons_append, TT.out]; have := Gr.out; simpa using this⟩
        case measure => simp [RowKit.intOf]; omega
    · obtain rfl : k = l.length := by omega
      have h1 : ¬ (l.length : Int) < (s.size : Int) := by omega
      rw [List.take_length] at E
      have hlen := escR_len l
      obtain ⟨T, hT⟩ : ∃ T, 34 :: escR l = T := ⟨_, rfl⟩
      rw [hT] at E
      have hTl : T.length ≤ 300000 := by rw [← hT, List.length_cons]; omega
      have TT := Lib.hid hT
      clear hT hlen
      go_wp2_with (at_builtin; refine wpList_append_own _ rfl (.tmp 31) (.tmp 32) 56 rfl w.heap.size 5 i0 (.int .u8 0) 1 1 Tryz.underlying56 HI.out HZ.out HZ1.out HZ2.out rfl (by decide) _ _ _ rfl (E.out.own.alloc _) _ 1 1 [.int .u8 34] rfl rfl ?sa1 ?sa2 ?sa3 ?sa4 ?sa5 ?_)
      case sa2 => first | rfl | (intro u hu; simp at hu; subst hu; rfl)
      case sa3 => unfold maxLen; omega
      case sa4 => omega
      case sa5 => have := E.out.ge; simp; omega
      intro vs ws howns hgrows _
      have Gs := E.out.app (X := [34]) _ howns hgrows
      have hC := str_of_row (P := Tryz.prog) (src := 56) (dst := 9) Gs.own Tryz.underlying56 Tryz.underlying5 Tryz.underlying9
      have hB := Gs.bel
      clear howns hgrows Gs
      go_wp2
      go_ret
      exact ⟨by rw [← TT.out]; rfl, hB⟩
theorem quote_any (l : List UInt8) (hl : l.length ≤ 100000) (w : World) :
    Calls Tryz.prog 54 #[.string ⟨l.toArray⟩] w fun e w' => e = .returned (.string ⟨(quoR l).toArray⟩) ∧ Below w.heap.size w w' := quote_at ⟨l.toArray⟩ l rfl hl w
end Go.Proofs.YtgldieboflmnhaaGreatDoor
