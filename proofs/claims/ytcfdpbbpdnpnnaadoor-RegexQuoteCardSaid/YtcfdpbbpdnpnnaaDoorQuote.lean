/- regex.Quote. -/
import Derived.Test.YtcfdpbbpdnpnnaaDoorRQuote
import Derived.Test.YtcfdpbbpdnpnnaaDoorOps
import Derived.Test.YtcfdpbbpdnpnnaaDoorShelf
import Derived.Laws.AppendOwn
import Derived.OwnWalk
namespace Go.Proofs.YtcfdpbbpdnpnnaaDoor
open Go Go.Proofs Go.RowKit Go.Shelf Go.Lib
set_option maxRecDepth 100000
theorem info_u8 : (Tryd.prog.info? 5).map (fun i => (i.zero, i.size, i.bytes)) = some (some (.int .u8 0), 1, 1) := by kernel_rfl
/-- whether a byte is one of some -/
theorem idx_in (c : UInt8) : ∀ l : List UInt8, (decide (0 ≤ Lib.indexByte l c)) = l.contains c ∧ -1 ≤ Lib.indexByte l c := by
  intro l
  induction l with
  | nil => exact ⟨rfl, Int.le_refl _⟩
  | cons b t ih =>
    unfold Lib.indexByte
    by_cases h : b = c
    · rw [if_pos (by rw [beq_iff_eq]; exact h)]
      refine ⟨?_, by omega⟩
      rw [List.contains_iff_mem.2 (by rw [h]; exact List.mem_cons_self)]; rfl
    · rw [if_neg (by rw [beq_iff_eq]; exact h)]
      have e : (b :: t).contains c = t.contains c := by
        rw [List.contains_cons, show (c == b) = false from by rw [beq_eq_false_iff_ne]; exact fun e => h e.symm, Bool.false_or]
      rw [e, ← ih.1]
      by_cases h2 : Lib.indexByte t c = -1
      · rw [if_pos (by rw [beq_iff_eq]; exact h2), h2]; exact ⟨rfl, by decide⟩
      · rw [if_neg (by rw [beq_iff_eq]; exact h2)]
        have := ih.2
        refine ⟨?_, by omega⟩
        rw [decide_eq_decide]; omega
def quotedL : List UInt8 := specialL ++ [46]
theorem quoted_in (c : UInt8) : quotedL.contains c = (specialL.contains c || c.toNat == 46) := by
  unfold quotedL
  rw [List.contains_eq_any_beq, List.any_append, ← List.contains_eq_any_beq]
  congr 1
  show (c == 46 || false) = _
  rw [Bool.or_false]
  by_cases h : c = 46
  · rw [h]; rfl
  · rw [show (c == 46) = false from by rw [beq_eq_false_iff_ne]; exact h]
    symm
    rw [beq_eq_false_iff_ne]
    exact fun e => h (UInt8.toNat.inj (by rw [e]; rfl))
set_option maxHeartbeats 4000000 in
theorem quote_at (s : ByteArray) (l : List UInt8) (hud : s.data.toList = l) (hl : l.length ≤ 1000) (w : World) :
    Calls Tryd.prog 15 #[.string s] w fun e w' => e = .returned (.string ⟨(quoteR l).toArray⟩) ∧ Below w.heap.size w w' := by
  obtain ⟨i0, hi, hz0, hz1, hz2⟩ := info_parts info_u8
  have HI := Lib.hid hi
  have HZ := Lib.hid hz0
  have HZ1 := Lib.hid hz1
  have HZ2 := Lib.hid hz2
  clear hi hz0 hz1 hz2
  have hsz : s.size = l.length := by rw [Lib.size_eq, hud]
  have HU := Lib.hid hud
  have SP := Lib.hid (fun (c : UInt8) (W : World) => Tryd.strings_IndexByte ⟨quotedL.toArray⟩ (c.toNat : Int) W)
  clear hud
  go_enter Tryd.func15, Tryd.ntmps15
  go_wp2
  go_loopw [3, 7] (fun v i wr => ∃ (k : Nat) (T : List UInt8), k ≤ l.length ∧ i = .int .i64 (k : Int) ∧ wr.ownsRow w.heap.size 5 1 v T.length (byteCells T) ∧ T = quoteR (l.take k) ∧ Below w.heap.size w wr) (fun _ i _ => l.length - (RowKit.intOf i).toNat)
  case atStart => exact ⟨0, [], Nat.zero_le _, rfl, World.ownsRow_nil _ _ _ _, rfl, Below.refl _ _⟩
  case round =>
    obtain ⟨k, T, hk, rfl, hO, hT, hB⟩ := hrel
    have hTl : T.length ≤ 2000 := by
      have := quoteR_len (l.take k)
      rw [List.length_take] at this
      rw [hT]; omega
    by_cases hlt : k < l.length
    · have hi : k < s.size := by omega
      obtain ⟨c, hc⟩ : ∃ c : UInt8, s[k]'hi = c := ⟨_, rfl⟩
      have hcl : l[k]? = some c := by rw [← HU.out, ← hc]; exact Lib.data_getElem? s k hi
      obtain ⟨hn, he⟩ := List.getElem?_eq_some_iff.1 hcl
      have hsn : quoteR (l.take (k + 1)) = T ++ quoteC c := by rw [List.take_succ_eq_append_getElem hn, he, quoteR_snoc, hT]
      have h0 : (0 : Int) ≤ (k : Int) := by omega
      have h1 : (k : Int) < (l.length : Int) := by omega
      have h2 : (k : Int) < (s.size : Int) := by omega
      have S1 := SP.out c wr
      rw [show ((c.toNat : Int)).toNat.toUInt8 = c from by simp] at S1
      have hix := (idx_in c quotedL).1
      rw [quoted_in] at hix
      have HO := Lib.hid hO
      unfold quoteC at hsn
      cases q : (specialL.contains c || c.toNat == 46)
      · rw [q] at hix
        rw [q, if_neg (by simp)] at hsn
        generalize Lib.indexByte quotedL c = ix at *
        have S1 := Lib.hid S1
        have SN := Lib.hid hsn
        clear hsn hcl he hT hO q
        go_wp2_with fail
        refine (S1.out).mono ?_
        rintro e w1 ⟨rfl, rfl⟩
        go_wp2_with (at_builtin; refine wpList_append_own _ rfl (.tmp 18) (.tmp 22) 40 rfl w.heap.size 5 i0 (.int .u8 0) 1 1 Tryd.underlying40 HI.out HZ.out HZ1.out HZ2.out rfl (by decide) _ _ _ rfl (HO.out.alloc _) _ 1 1 [.int .u8 (c.toNat : Int)] rfl rfl ?b1 ?b2 ?b3 ?b4 ?b5 ?_)
        case b1 => intro j u hj; match j, hj with | 0, hj => simp at hj; subst hj; rw [Addr.add_lit]; simp
        case b2 => intro u hu; simp at hu; subst hu; rfl
        case b3 => unfold maxLen; omega
        case b4 => omega
        case b5 => have := hB.size; simp; omega
        intro vb wb hown' hgrow _
        have hBb : Below w.heap.size w wb := (hB.alloc hB.size _).grown hgrow (by have := hB.size; simp; omega) (fun q eq => by
          rcases HO.out.2 with ⟨rfl, _⟩ | ⟨g, cp, cur, rfl, hbg, _⟩
          · simp [Value.ownBlock] at eq
          · obtain rfl : g = q := by simpa [Value.ownBlock] using eq
            exact hbg)
        have HOb := Lib.hid hown'
        clear hown' hgrow
        go_wp2
        go_roundw
        case rel => exact ⟨k + 1, T ++ [c], by omega, by go_num, by rw [List.length_append, show byteCells (T ++ [c]) = byteCells T ++ [.int .u8 (c.toNat : Int)] by simp [byteCells]]; exact HOb.out, SN.out.symm, hBb⟩
        case measure => simp [RowKit.intOf]; omega
      · rw [q] at hix
        rw [q, if_pos rfl] at hsn
        generalize Lib.indexByte quotedL c = ix at *
        have S1 := Lib.hid S1
        have SN := Lib.hid hsn
        clear hsn hcl he hT hO q
        go_wp2_with fail
        refine (S1.out).mono ?_
        rintro e w1 ⟨rfl, rfl⟩
        go_wp2_with (at_builtin; refine wpList_append_own _ rfl (.tmp 15) (.tmp 16) 40 rfl w.heap.size 5 i0 (.int .u8 0) 1 1 Tryd.underlying40 HI.out HZ.out HZ1.out HZ2.out rfl (by decide) _ _ _ rfl (HO.out.alloc _) _ 1 1 [.int .u8 92] rfl rfl ?a1 ?a2 ?a3 ?a4 ?a5 ?_)
        case a1 => intro j u hj; match j, hj with | 0, hj => simp at hj; subst hj; rw [Addr.add_lit]; simp
        case a2 => intro u hu; simp at hu; subst hu; rfl
        case a3 => unfold maxLen; omega
        case a4 => omega
        case a5 => have := hB.size; simp; omega
        intro va wa hown' hgrow _
        have hBa : Below w.heap.size w wa := (hB.alloc hB.size _).grown hgrow (by have := hB.size; simp; omega) (fun q eq => by
          rcases HO.out.2 with ⟨rfl, _⟩ | ⟨g, cp, cur, rfl, hbg, _⟩
          · simp [Value.ownBlock] at eq
          · obtain rfl : g = q := by simpa [Value.ownBlock] using eq
            exact hbg)
        have HOa := Lib.hid hown'
        clear hown' hgrow
        go_wp2_with (at_builtin; refine wpList_append_own _ rfl (.tmp 18) (.tmp 22) 40 rfl w.heap.size 5 i0 (.int .u8 0) 1 1 Tryd.underlying40 HI.out HZ.out HZ1.out HZ2.out rfl (by decide) _ _ _ rfl (HOa.out.alloc _) _ 1 1 [.int .u8 (c.toNat : Int)] rfl rfl ?b1 ?b2 ?b3 ?b4 ?b5 ?_)
        case b1 => intro j u hj; match j, hj with | 0, hj => simp at hj; subst hj; rw [Addr.add_lit]; simp
        case b2 => intro u hu; simp at hu; subst hu; rfl
        case b3 => unfold maxLen; omega
        case b4 => omega
        case b5 => have := hBa.size; simp; omega
        intro vb wb hown' hgrow _
        have hBb : Below w.heap.size w wb := (hBa.alloc hBa.size _).grown hgrow (by have := hBa.size; simp; omega) (fun q eq => by
          rcases HOa.out.2 with ⟨rfl, _⟩ | ⟨g, cp, cur, rfl, hbg, _⟩
          · simp [Value.ownBlock] at eq
          · obtain rfl : g = q := by simpa [Value.ownBlock] using eq
            exact hbg)
        have HOb := Lib.hid hown'
        clear hown' hgrow
        go_wp2
        go_roundw
        case rel => exact ⟨k + 1, T ++ [92, c], by omega, by go_num, by rw [List.length_append, show byteCells (T ++ [92, c]) = byteCells T ++ [.int .u8 92, .int .u8 (c.toNat : Int)] by simp [byteCells]]; exact HOb.out, SN.out.symm, hBb⟩
        case measure => simp [RowKit.intOf]; omega
    · obtain rfl : k = l.length := by omega
      rw [List.take_length] at hT
      have HT := Lib.hid hT
      have hC := str_of_row (P := Tryd.prog) (src := 40) (dst := 9) hO Tryd.underlying40 Tryd.underlying5 Tryd.underlying9
      have HC := Lib.hid hC
      clear hT hO
      go_wp2
      go_ret
      exact ⟨by rw [HT.out]; rfl, hB⟩
end Go.Proofs.YtcfdpbbpdnpnnaaDoor
