/- strings.IndexAny of the digits at every text of at most eight bytes; with the long ones: at every text. -/
import Derived.Test.YtmiahbaadlddjaaDoorIdx
import Derived.Lib.OthersKept
namespace Go.Proofs.YtmiahbaadlddjaaDoor
open Go Go.Proofs Go.RowKit Go.Shelf
set_option maxRecDepth 100000
theorem get_data (s : ByteArray) (j : Nat) (h : j < s.size) : s.data.toList[j]? = some (s.get! j) := by
  rw [Lib.data_getElem? s j h]
  have := get_at s j h
  simp only [Nat.add_zero] at this
  rw [this]
set_option maxHeartbeats 2000000 in
theorem dec_facts (s : ByteArray) (pos : Nat) (h : pos < s.size) (ha : 128 ≤ (s[pos]'h).toNat) :
    pos + (Utf8.decode s pos).2 ≤ s.size ∧ ∀ j, j < (Utf8.decode s pos).2 → 128 ≤ (s.get! (pos + j)).toNat := by
  have hn : ¬ (s[pos]'h).toNat < 128 := by omega
  have h0 : 128 ≤ (s.get! (pos + 0)).toNat := by rw [get_at s pos h]; exact ha
  simp only [Utf8.decode, get_at s pos h, hn, if_false]
  repeat' split
  all_goals
    (simp only [Bool.and_eq_true, beq_iff_eq, decide_eq_true_eq, ge_iff_le] at *
     refine ⟨by omega, fun j hj => ?_⟩
     rcases j with _ | _ | _ | _ | j
     · exact h0
     · first | (exfalso; omega) | (show 128 ≤ (s.get! (pos + 1)).toNat; omega)
     · first | (exfalso; omega) | (show 128 ≤ (s.get! (pos + 2)).toNat; omega)
     · first | (exfalso; omega) | (show 128 ≤ (s.get! (pos + 3)).toNat; omega)
     · exfalso; omega)
theorem noany_jump (s : ByteArray) (i k : Nat) (hle : i + k ≤ s.size) (hb : ∀ j, j < k → 128 ≤ (s.get! (i + j)).toNat) (h : Lib.NoAny s.data.toList digs i) : Lib.NoAny s.data.toList digs (i + k) := by
  intro j b hj hjb
  by_cases hlt : j < i
  · exact h j b hlt hjb
  · have hd := get_data s j (by omega)
    rw [hd] at hjb
    cases hjb
    have hb' := hb (j - i) (by omega)
    rw [show i + (j - i) = j by omega] at hb'
    cases hc : digs.contains (s.get! j) with
    | false => rfl
    | true =>
      have := (dB_iff (s.get! j)).1 hc
      omega
set_option maxHeartbeats 4000000 in
theorem idx_short (s : ByteArray) (h8 : s.size ≤ 8) (W : World) :
    Calls Tryd.prog 36 #[.string s, .string ⟨#[48, 49, 50, 51, 52, 53, 54, 55, 56, 57]⟩] W fun e w' => e = .returned (.int .i64 (Lib.indexAny s.data.toList digs)) ∧ Below W.heap.size W w' := by
  have RH : Hid (∀ (r : Int), 128 ≤ r → ∀ W, Calls Tryd.prog 46 #[.string ⟨#[48, 49, 50, 51, 52, 53, 54, 55, 56, 57]⟩, .int .i32 r] W fun e w' => e = .returned (.int .i64 (-1)) ∧ Below W.heap.size W w') := Lib.hid (fun r h W => rune_high r h W)
  have RA : Hid (∀ (r : Int), 0 ≤ r → r < 128 → ∀ W, Calls Tryd.prog 46 #[.string ⟨#[48, 49, 50, 51, 52, 53, 54, 55, 56, 57]⟩, .int .i32 r] W fun e w' => e = .returned (.int .i64 (Lib.indexByte digs r.toNat.toUInt8)) ∧ W = w') :=
    Lib.hid (fun r h0 h1 W => (Tryd.strings_IndexRune_ascii (⟨#[48, 49, 50, 51, 52, 53, 54, 55, 56, 57]⟩ : ByteArray) r W h0 h1).mono fun e w' ⟨a, b⟩ => ⟨a, b.symm⟩)
  obtain ⟨d, hd⟩ : ∃ d : ByteArray, (⟨#[48, 49, 50, 51, 52, 53, 54, 55, 56, 57]⟩ : ByteArray) = d := ⟨_, rfl⟩
  have hdl : d.data.toList = digs := by rw [← hd]; rfl
  have hemp : d.toList.isEmpty = false := by rw [Lib.toList_data, hdl]; rfl
  have hds : d.size = 10 := by rw [← hd]; rfl
  have hn1 : ((d.size : Int) == 1) = false := beq_eq_false_iff_ne.2 (by omega)
  have h8z : decide ((8 : Int) < (s.size : Int)) = false := decide_eq_false (by omega)
  have SU := fun W => (Tryd.strings_shouldUseASCIISet (s.size : Int) W).mono (R' := fun e w' => e = .returned (.bool false) ∧ W = w') (fun e w' ⟨a, b⟩ => ⟨by rw [a, h8z], b.symm⟩)
  have SU := Lib.hid SU
  rw [hd] at RH RA ⊢
  clear hd h8z hdl hds
  go_enter Tryd.func36, Tryd.ntmps36
  go_wp2_with fail
  refine (SU.out _).mono ?_
  rintro e w' ⟨rfl, rfl⟩
  go_wp2
  clear hemp hn1 SU
  go_loopg [9, 10] s.size (fun g _ _ wx => ∃ i : Nat, i + g = s.size ∧ wx.heap[W.heap.size]? = some (.stringIter s i) ∧ Below W.heap.size W wx ∧ Lib.NoAny s.data.toList digs i)
  case atStart => exact ⟨0, by omega, World.iter_heap W s 0, (Below.refl _ _).alloc (Nat.le_refl _) _, Lib.NoAny.zero _ _⟩
  case round =>
    obtain ⟨i, hig, hit, hbw, hno⟩ := hrel
    have HN := Lib.hid hno
    have HB := Lib.hid hbw
    have HI := Lib.hid hit
    have hlt : W.heap.size < wr.heap.size := (Array.getElem?_eq_some_iff.1 hit).1
    have HL := Lib.hid hlt
    have h8 := Lib.hid h8
    clear hno hbw hlt
    by_cases hi : i < s.size
    · obtain ⟨x, hx⟩ : ∃ x : UInt8, s[i]'hi = x := ⟨_, rfl⟩
      by_cases h128 : x.toNat < 128
      · have hxl : s.data.toList[i]? = some x := by rw [← hx]; exact Lib.data_getElem? s i hi
        have hnx := fun ty => Lib.run_next_ascii_at (P := Tryd.prog) wr W.heap.size s i ty hit hi (by rw [hx]; exact h128)
        rw [hx] at hnx
        have HX := Lib.hid hxl
        clear hxl hx hit
        have hcon := Lib.contains_iff_indexByte digs x
        have CR := RA.out x.toNat (by omega) (by omega)
        rw [show ((x.toNat : Int)).toNat.toUInt8 = x by simp] at CR
        have CR := Lib.hid CR
        clear RA RH
        obtain ⟨z, hz⟩ : ∃ z, Lib.indexByte digs x = z := ⟨_, rfl⟩
        rw [hz] at CR hcon
        clear hz
        obtain ⟨w1, hw1⟩ : ∃ w1, wr.iterAt W.heap.size s (i + 1) = w1 := ⟨_, rfl⟩
        rw [hw1] at hnx
        have W1 := Lib.hid hw1
        clear hw1
        cases hin : digs.contains x
        · rw [hin] at hcon
          have hlt : ¬ ((0 : Int) ≤ z) := of_decide_eq_false hcon.symm
          clear hcon
          go_wp2_with fail
          refine (CR.out _).mono ?_
          rintro e w' ⟨rfl, rfl⟩
          go_wp2
          go_roundg (s.size - (i + 1))
          case measure => omega
          case rel => exact ⟨i + 1, by omega, by rw [← W1.out]; exact Lib.iterAt_heap _ _ _ _ _ HI.out, by rw [← W1.out]; exact Lib.below_iterAt HB.out (Nat.le_refl _) _ _, HN.out.succ HX.out hin⟩
        · rw [hin] at hcon
          have hge : (0 : Int) ≤ z := of_decide_eq_true hcon.symm
          clear hcon
          go_wp2_with fail
          refine (CR.out _).mono ?_
          rintro e w' ⟨rfl, rfl⟩
          go_wp2
          go_ret
          exact ⟨by rw [Lib.indexAny_hit HN.out HX.out hin]; rfl, by rw [← W1.out]; exact Lib.below_iterAt HB.out (Nat.le_refl _) _ _⟩
      · have ha : 128 ≤ (s[i]'hi).toNat := by rw [hx]; omega
        have hnx := fun ty => Lib.run_next_any_at (P := Tryd.prog) wr W.heap.size s i ty hit hi
        obtain ⟨f1, f2⟩ := dec_facts s i hi ha
        have f3 := decode_high s i hi ha
        have f4 := decode_le s i
        obtain ⟨r, hr⟩ : ∃ r, (Utf8.decode s i).1 = r := ⟨_, rfl⟩
        obtain ⟨k, hk⟩ : ∃ k, (Utf8.decode s i).2 = k := ⟨_, rfl⟩
        rw [hr, hk] at hnx f3
        rw [hk] at f1 f2
        rw [hr] at f4
        have hjump := Lib.hid (noany_jump s i k f1 f2 HN.out)
        have CR := Lib.hid (RH.out (r : Int) (by omega))
        clear RA RH hr hk ha hx hit f2 HN
        obtain ⟨w1, hw1⟩ : ∃ w1, wr.iterAt W.heap.size s (i + k) = w1 := ⟨_, rfl⟩
        rw [hw1] at hnx
        have W1 := Lib.hid hw1
        clear hw1
        go_wp2_with fail
        refine (CR.out _).mono ?_
        rintro e w2 ⟨rfl, hb2⟩
        have HB2 := Lib.hid hb2
        clear hb2
        go_wp2
        go_roundg (s.size - (i + k))
        case measure => omega
        case rel =>
          have hb2 := HB2.out
          have e1 := W1.out
          have hit1 : w1.heap[W.heap.size]? = some (.stringIter s (i + k)) := by rw [← e1]; exact Lib.iterAt_heap _ _ _ _ _ HI.out
          have hlt1 : W.heap.size < w1.heap.size := (Array.getElem?_eq_some_iff.1 hit1).1
          have hb1 : Below W.heap.size W w1 := by rw [← e1]; exact Lib.below_iterAt HB.out (Nat.le_refl _) _ _
          exact ⟨i + k, by omega, by rw [hb2.block _ hlt1]; exact hit1, hb1.trans (hb2.mono (Nat.le_of_lt hlt1)), hjump.out⟩
    · have hnx := fun ty => Lib.run_next_end_at (P := Tryd.prog) wr W.heap.size s i ty hit hi
      clear RA RH
      go_wp2
      go_ret
      refine ⟨?_, HB.out⟩
      have he : i = s.size := by omega
      have := HN.out
      rw [he] at this
      rw [Lib.indexAny_none (by rw [← Lib.size_eq]; exact this)]
      rfl
theorem ix_any (l : List UInt8) (hl : l.length ≤ 1000) : IxOk l := by
  by_cases h : 8 < (l.dropWhile dB).length
  · exact ix_long l hl h
  · intro W
    have := idx_short ⟨(l.dropWhile dB).toArray⟩ (by show (l.dropWhile dB).toArray.size ≤ 8; simp; omega) W
    simpa using this
end Go.Proofs.YtmiahbaadlddjaaDoor
