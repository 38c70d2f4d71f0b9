/- journal.Encode. -/
import Derived.Test.YteddlpcnefogpaaJnS
import Derived.Laws.AppendOwnNone
import Derived.Lib.JoinLaws
namespace Go.Proofs.Yteddlpcnefogpaa
open Go Go.Proofs Go.RowKit Go.Shelf
set_option maxRecDepth 100000
attribute [local go_sem] cell_set
/-- bytes that are handed in -/
structure BysC (W : World) (a : Option Addr) (n c : Nat) (l : List UInt8) : Prop where
  bys : Bys W (.slice a n c) l
  le : n ≤ c
  nil : a = none → c = 0
theorem Bys.len {W : World} {a : Option Addr} {n c : Nat} {l : List UInt8} (h : Bys W (.slice a n c) l) : n = l.length := by
  rcases h with ⟨⟨_, _, e⟩, rfl⟩ | ⟨b, off, cap, e, _⟩
  · injection e
  · injection e
theorem BysC.below {A B : World} {a : Option Addr} {n c : Nat} {l : List UInt8} (h : BysC A a n c l) (hb : Below A.heap.size A B) : BysC B a n c l := ⟨h.bys.below hb, h.le, h.nil⟩
theorem BysC.of_dat {B : Nat} {W : World} {a : Option Addr} {n c : Nat} {l : List UInt8} (h : Dat B W (.slice a n c) l) : BysC W a n c l := by
  obtain ⟨⟨h1, h2⟩, a', c', e⟩ := h
  injection e with e1 e2 e3
  subst e1 e2 e3
  refine ⟨Bys.of_row ⟨h1, h2⟩, ?_, ?_⟩
  · rcases h2 with ⟨e, h0⟩ | ⟨g, cap, cur, e, _, _, q, _⟩
    · injection e with _ _ e3; omega
    · injection e with _ _ e3; omega
  · rintro rfl
    rcases h2 with ⟨e, h0⟩ | ⟨g, cap, cur, e, _, _, q, _⟩
    · injection e
    · injection e with e1; cases e1
def EncPost (r : Rec) (w : World) (e : Ending) (w' : World) : Prop :=
  Below w.heap.size w w' ∧ if 65535 < r.2.length then e = .returned (.tuple #[.slice none 0 0, .int .i64 4]) else if r.1 = 0 then e = .returned (.tuple #[.slice none 0 0, .int .i64 1]) else
    ∃ v, e = .returned (.tuple #[v, .int .i64 0]) ∧ Dat w.heap.size w' v (encR r)
theorem make_room (n : Nat) (h : n ≤ 1099511627776) (w : World) : (Instr.makeSlice 22 (.int .i64 0) (.int .i64 (4 + (n : Int)))).run Try.prog w = .ok (.slice (some ⟨w.heap.size, 0, none⟩) 0 (4 + n)) (w.alloc (.cells (madeCells #[.int .u8 0] (4 + n)) 5)) := by
  have h := run_make_room (P := Try.prog) 22 5 (.int .u8 0) 1 Try.underlying22 info_u8 rfl .i64 .i64 (4 + n) (by omega) (by omega) w
  simpa using h
theorem blk_grown {W W' : World} {B : Nat} {T : TypeId} {cs : Array Value} {r : Option Nat} (h : Blk W B cs T) (hg : W.grownBy W' r) (hr : r ≠ some B) : Blk W' B cs T := (hg.block B (Array.getElem?_eq_some_iff.1 h).1 (fun e => hr e.symm)).trans h
theorem blk_new (w : World) (cs : Array Value) (T : TypeId) : Blk (w.alloc (.cells cs T)) w.heap.size cs T := heap_alloc_new w _
theorem Blk.alloc {W : World} {B : Nat} {T : TypeId} {cs : Array Value} (h : Blk W B cs T) (o : Obj) : Blk (W.alloc o) B cs T := blk_grown h (World.grownBy_alloc W o none) (by simp)
theorem cells3_new (W : World) (u v x : Value) (T : TypeId) : ∀ j y, [u, v, x][j]? = some y → (W.alloc (.cells #[u, v, x] T)).cell? ((⟨W.heap.size, 0, none⟩ : Addr).add j) = some y := by
  intro j y h
  have hb : Blk (W.alloc (.cells #[u, v, x] T)) W.heap.size #[u, v, x] T := heap_alloc_new W _
  have e : ((⟨W.heap.size, 0, none⟩ : Addr).add j) = ⟨W.heap.size, j, none⟩ := by rw [Addr.add_lit]; simp
  rw [e]
  exact blk_cell hb (by simpa using h)
theorem row_ne {w : World} {base e s n B : Nat} {v : Value} {X : List Value} (h : w.ownsRow base e s v n X) (hB : B < base) : v.ownBlock ≠ some B := fun q => by
  have := (World.ownsRow.lt h B q).1
  omega
theorem u8_is (n : Nat) : byV (UInt8.ofNat n) = .int .u8 ((n : Int) % 256) := by
  show Value.int .u8 (((UInt8.ofNat n).toNat : Nat) : Int) = _
  rw [UInt8.toNat_ofNat']
  simp
set_option maxHeartbeats 8000000 in
theorem encode_nil (k : UInt8) (w : World) (h0 : k ≠ 0) :
    Calls Try.prog 16 #[.agg #[byV k, .slice none 0 0]] w (EncPost (k, []) w) := by
  obtain ⟨i0, hi, hz0, hz1, hz2⟩ := info_parts info_u8
  have hk0 : ((k.toNat : Int) == 0) = decide (k = 0) := by
    rw [Bool.eq_iff_iff]
    simp only [beq_iff_eq, decide_eq_true_eq, ← UInt8.toNat_inj]
    exact Int.natCast_eq_zero
  have HP : Hid (∀ v w', Below w.heap.size w w' → Dat w.heap.size w' v (encR (k, [])) → EncPost (k, []) w (.returned (.tuple #[v, .int .i64 0])) w') := fun v w' hb hd => by
    unfold EncPost; rw [if_neg (by simp), if_neg h0]; exact ⟨hb, v, rfl, hd⟩
  have q2 : ((k.toNat : Int) == 0) = false := by rw [hk0]; simpa using h0
  have HI := Lib.hid hi
  have HZ := Lib.hid hz0
  have HZ1 := Lib.hid hz1
  have HZ2 := Lib.hid hz2
  clear hi hz0 hz1 hz2 hk0 h0
  have mk : ∀ w, (Instr.makeSlice 22 (.int .i64 0) (.int .i64 4)).run Try.prog w = .ok (.slice (some ⟨w.heap.size, 0, none⟩) 0 4) (w.alloc (.cells (madeCells #[.int .u8 0] 4) 5)) := make_room 0 (by omega)
  have hB0 := blk_new w #[byV k, .slice none 0 0] 42
  have hown0 := World.ownsRow_made (w.alloc (.cells #[byV k, .slice none 0 0] 42)) (base := w.heap.size + 1) (e := 5) (size := 1) (madeCells #[.int .u8 0] 4) 4 (by simp) (by unfold maxLen; omega) (by simp [size_madeCells])
  obtain ⟨W1, hW1⟩ : ∃ W1, (w.alloc (.cells #[byV k, .slice none 0 0] 42)).alloc (.cells (madeCells #[.int .u8 0] 4) 5) = W1 := ⟨_, rfl⟩
  have hB1 : Blk W1 w.heap.size #[byV k, .slice none 0 0] 42 := by rw [← hW1]; exact blk_grown hB0 (World.grownBy_alloc _ _ none) (by simp)
  have hown1 : W1.ownsRow (w.heap.size + 1) 5 1 (.slice (some ⟨w.heap.size + 1, 0, none⟩) 0 4) 0 [] := by rw [← hW1]; simpa using hown0
  have hb1 : Below w.heap.size w W1 := by rw [← hW1]; go_grown
  have hz1 : W1.heap.size = w.heap.size + 2 := by rw [← hW1]; simp
  have cB1 := (At.of_block hB1).f2
  have HB1 := Lib.hid hB1
  have HO1 := Lib.hid hown1
  have Hb1 := Lib.hid hb1
  have Hz1 := Lib.hid hz1
  clear hB0 hown0 hB1 hown1 hb1 hz1
  go_enter Try.func16, Try.ntmps16
  go_wp2_with (at_builtin; refine wpList_append_own _ rfl _ _ 22 rfl (w.heap.size + 1) 5 i0 (.int .u8 0) 1 1 Try.underlying22 HI.out HZ.out HZ1.out HZ2.out rfl (by decide) _ _ _ rfl (HO1.out.alloc _) ⟨W1.heap.size, 0, none⟩ 3 3 [.int .u8 0, .int .u8 0, byV k] rfl rfl (cells3_new W1 _ _ _ _) (by intro u hu; simp at hu; rcases hu with rfl | rfl <;> rfl) (by unfold maxLen; omega) (by omega) (by rw [World.size_alloc, Hz1.out]; omega) ?_)
  intro v2 w2 own2 g2 _
  have hB2 := blk_grown (HB1.out.alloc _) g2 (row_ne HO1.out (by omega))
  have cB2 := (At.of_block hB2).f2
  have hb2 : Below w.heap.size w w2 := (Hb1.out.alloc Hb1.out.size _).grown g2 (by rw [World.size_alloc, Hz1.out]; omega) (fun q e => by have := (World.ownsRow.lt HO1.out q e).1; omega)
  have hz2 : w.heap.size + 1 ≤ w2.heap.size := by have := g2.size; rw [World.size_alloc, Hz1.out] at this; omega
  obtain ⟨g', cap', rfl⟩ := own_some own2 (by omega)
  have HO3 := Lib.hid own2
  have Hb3 := Lib.hid hb2
  have Hz3 := Lib.hid hz2
  have hcap : 3 ≤ cap' := by
    rcases own2.2 with ⟨e, _⟩ | ⟨_, _, _, e, _, _, q, _⟩
    · cases e
    · cases e; exact q
  clear own2 hB2 hb2 g2 cB1 hW1 mk hz2
  go_wp2_with (at_builtin; refine wpList_append_own _ rfl _ _ 22 rfl (w.heap.size + 1) 5 i0 (.int .u8 0) 1 1 Try.underlying22 HI.out HZ.out HZ1.out HZ2.out rfl (by decide) _ _ _ rfl (HO3.out.alloc _) ⟨w2.heap.size, 0, none⟩ 1 1 [byV k] rfl rfl (cell_one_new _ _ _) (by intro u hu; simp at hu; subst hu; rfl) (by unfold maxLen; omega) (by omega) (by rw [World.size_alloc]; have := Hz3.out; omega) ?_)
  intro v4 w4 own4 g4 _
  have hb4 : Below w.heap.size w w4 := (Hb3.out.alloc Hb3.out.size _).grown g4 (by rw [World.size_alloc]; have := Hb3.out.size; omega) (fun q e => by have := (World.ownsRow.lt HO3.out q e).1; omega)
  have HF : Hid (EncPost (k, []) w (.returned (.tuple #[v4, .int .i64 0])) w4) := by
    refine HP.out _ _ hb4 ⟨row_at _ _ ?_ (Nat.le_succ _), ?_⟩
    · rw [encR_len]
      have e : Lib.byteCells (encR (k, [])) = [Value.int IntKind.u8 0, Value.int IntKind.u8 0, byV k, byV k] := by simp [encR, Lib.byteCells]
      rw [e]
      exact own4
    · rcases own4.2 with ⟨rfl, h0⟩ | ⟨g, cap, cur, rfl, _⟩
      · omega
      · exact ⟨_, _, rfl⟩
  clear hb4 own4 g4
  go_wp2
  refine bodyPost_ret (by simp [results, Try.f16, go_sem]; try rfl) rfl ?_
  exact HF.out
set_option maxHeartbeats 8000000 in
theorem encode_any (k : UInt8) (a : Option Addr) (c : Nat) (d : List UInt8) (w : World) (h : BysC w a d.length c d) (hbig : d.length ≤ 1099511627776) :
    Calls Try.prog 16 #[.agg #[byV k, .slice a d.length c]] w (EncPost (k, d) w) := by
  obtain ⟨i0, hi, hz0, hz1, hz2⟩ := info_parts info_u8
  have hk0 : ((k.toNat : Int) == 0) = decide (k = 0) := by
    rw [Bool.eq_iff_iff]
    simp only [beq_iff_eq, decide_eq_true_eq, ← UInt8.toNat_inj]
    exact Int.natCast_eq_zero
  by_cases hl : 65535 < d.length
  · have HP : Hid (∀ w', Below w.heap.size w w' → EncPost (k, d) w (.returned (.tuple #[.slice none 0 0, .int .i64 4])) w') := fun w' hb => by
      unfold EncPost; rw [if_pos hl]; exact ⟨hb, rfl⟩
    have q : (65535 : Int) < (d.length : Int) := by omega
    clear h hi hz0 hz1 hz2 hk0 hl
    go_enter Try.func16, Try.ntmps16
    go_wp2
    refine bodyPost_ret (by simp [results, Try.f16, go_sem]; try rfl) rfl ?_
    exact HP.out _ (below_cells _)
  · have q : ¬ (65535 : Int) < (d.length : Int) := by omega
    by_cases h0 : k = 0
    · have HP : Hid (∀ w', Below w.heap.size w w' → EncPost (k, d) w (.returned (.tuple #[.slice none 0 0, .int .i64 1])) w') := fun w' hb => by
        unfold EncPost; rw [if_neg hl, if_pos h0]; exact ⟨hb, rfl⟩
      have q2 : ((k.toNat : Int) == 0) = true := by rw [hk0]; simpa using h0
      clear h hi hz0 hz1 hz2 hk0 hl h0
      go_enter Try.func16, Try.ntmps16
      go_wp2
      refine bodyPost_ret (by simp [results, Try.f16, go_sem]; try rfl) rfl ?_
      exact HP.out _ (below_cells _)
    · by_cases hnone : a = none
      · subst hnone
        have hc0 : c = 0 := h.nil rfl
        have hd0 : d = [] := List.eq_nil_of_length_eq_zero (by have := h.le; omega)
        subst hc0 hd0
        exact encode_nil k w h0
      have HP : Hid (∀ v w', Below w.heap.size w w' → Dat w.heap.size w' v (encR (k, d)) → EncPost (k, d) w (.returned (.tuple #[v, .int .i64 0])) w') := fun v w' hb hd => by
        unfold EncPost; rw [if_neg hl, if_neg h0]; exact ⟨hb, v, rfl, hd⟩
      have q2 : ((k.toNat : Int) == 0) = false := by rw [hk0]; simpa using h0
      have hlen : d.length ≤ 65535 := by omega
      have HH := Lib.hid h
      have HI := Lib.hid hi
      have HZ := Lib.hid hz0
      have HZ1 := Lib.hid hz1
      have HZ2 := Lib.hid hz2
      clear h hi hz0 hz1 hz2 hk0 hl h0
      have mk := make_room d.length hbig
      have hB0 := blk_new w #[byV k, .slice a d.length c] 42
      have hown0 := World.ownsRow_made (w.alloc (.cells #[byV k, .slice a d.length c] 42)) (base := w.heap.size + 1) (e := 5) (size := 1) (madeCells #[.int .u8 0] (4 + d.length)) (4 + d.length) (by simp) (by unfold maxLen; omega) (by simp [size_madeCells])
      obtain ⟨W1, hW1⟩ : ∃ W1, (w.alloc (.cells #[byV k, .slice a d.length c] 42)).alloc (.cells (madeCells #[.int .u8 0] (4 + d.length)) 5) = W1 := ⟨_, rfl⟩
      have hB1 : Blk W1 w.heap.size #[byV k, .slice a d.length c] 42 := by rw [← hW1]; exact blk_grown hB0 (World.grownBy_alloc _ _ none) (by simp)
      have hown1 : W1.ownsRow (w.heap.size + 1) 5 1 (.slice (some ⟨w.heap.size + 1, 0, none⟩) 0 (4 + d.length)) 0 [] := by rw [← hW1]; simpa using hown0
      have hb1 : Below w.heap.size w W1 := by rw [← hW1]; go_grown
      have hz1 : W1.heap.size = w.heap.size + 2 := by rw [← hW1]; simp
      have cB1 := (At.of_block hB1).f2
      have u1 : byV (UInt8.ofNat d.length) = .int .u8 ((d.length : Int) % 256) := u8_is _
      have u2 : byV (UInt8.ofNat (d.length / 256)) = .int .u8 ((d.length : Int) / 256) := by rw [u8_is]; congr 1; omega
      have HU := Lib.hid (And.intro u1 u2)
      have HB1 := Lib.hid hB1
      have HO1 := Lib.hid hown1
      have Hb1 := Lib.hid hb1
      have Hz1 := Lib.hid hz1
      clear hB0 hown0 hB1 hown1 hb1 u1 u2 hz1
      go_enter Try.func16, Try.ntmps16
      go_wp2_with (at_builtin; (refine wpList_append_own _ rfl _ _ 22 rfl (w.heap.size + 1) 5 i0 (.int .u8 0) 1 1 Try.underlying22 HI.out HZ.out HZ1.out HZ2.out rfl (by decide) _ _ _ rfl (HO1.out.alloc _) ⟨W1.heap.size, 0, none⟩ 3 3 [.int .u8 ((d.length : Int) % 256), .int .u8 ((d.length : Int) / 256), byV k] rfl rfl (cells3_new W1 _ _ _ _) (by intro u hu; simp at hu; rcases hu with rfl | rfl | rfl <;> rfl) (by unfold maxLen; omega) (by omega) (by rw [World.size_alloc, Hz1.out]; omega) ?_))
      intro v2 w2 own2 g2 _
      have hB2 := blk_grown (HB1.out.alloc _) g2 (row_ne HO1.out (by omega))
      have cB2 := (At.of_block hB2).f2
      have hb2 : Below w.heap.size w w2 := (Hb1.out.alloc Hb1.out.size _).grown g2 (by rw [World.size_alloc, Hz1.out]; omega) (fun q e => by have := (World.ownsRow.lt HO1.out q e).1; omega)
      have hz2 : w.heap.size + 1 ≤ w2.heap.size := by have := g2.size; rw [World.size_alloc, Hz1.out] at this; omega
      have HO2 := Lib.hid own2
      have HB2 := Lib.hid hB2
      have Hb2 := Lib.hid hb2
      have Hz2 := Lib.hid hz2
      clear own2 hB2 hb2 g2 cB1 hW1 mk hz2
      cases a with
      | none =>
        have hc0 : c = 0 := HH.out.nil rfl
        have hd0 : d = [] := List.eq_nil_of_length_eq_zero (by have := HH.out.le; omega)
        subst hc0 hd0
        exact absurd rfl hnone
      | some ad =>
        obtain ⟨ab, ao, asp⟩ := ad
        have hnews : ∀ j u, (Lib.byteCells d)[j]? = some u → w2.cell? ((⟨ab, ao, asp⟩ : Addr).add j) = some u := fun j u hj => by
          have h2 := HH.out.below (Below.mono (Hb2.out) (Nat.le_refl _))
          rcases h2.bys with ⟨_, rfl⟩ | ⟨b, off, cap, e, hb, hcc⟩
          · simp [Lib.byteCells] at hj
          · injection e with e1
            cases e1
            rw [Addr.add_lit]
            have hjl : j < d.length := by have := (List.getElem?_eq_some_iff.1 hj).1; simpa [Lib.byteCells] using this
            rw [hcc j _ (List.getElem?_eq_getElem hjl)]
            simp only [Lib.byteCells, List.getElem?_map, List.getElem?_eq_getElem hjl, Option.map_some] at hj
            exact hj
        go_wp2_with (at_builtin; refine wpList_append_own _ rfl _ _ 22 rfl (w.heap.size + 1) 5 i0 (.int .u8 0) 1 1 Try.underlying22 HI.out HZ.out HZ1.out HZ2.out rfl (by decide) _ _ _ rfl HO2.out ⟨ab, ao, asp⟩ d.length c (Lib.byteCells d) rfl (by simp [Lib.byteCells]) hnews (by intro u hu; simp only [Lib.byteCells, List.mem_map] at hu; obtain ⟨x, _, rfl⟩ := hu; rfl) (by unfold maxLen; omega) (by omega) Hz2.out ?_)
        intro v3 w3 own3 g3 _
        have hB3 := blk_grown HB2.out g3 (row_ne HO2.out (by omega))
        have cB3 := (At.of_block hB3).f2
        have hb3 : Below w.heap.size w w3 := Hb2.out.grown g3 Hb2.out.size (fun q e => by have := (World.ownsRow.lt HO2.out q e).1; omega)
        have hz3 : w.heap.size + 1 ≤ w3.heap.size := Nat.le_trans Hz2.out g3.size
        have HO3 := Lib.hid own3
        have HB3 := Lib.hid hB3
        have Hb3 := Lib.hid hb3
        have Hz3 := Lib.hid hz3
        clear own3 hB3 hb3 g3 cB2 hz3
        go_wp2_with (at_builtin; refine wpList_append_own _ rfl _ _ 22 rfl (w.heap.size + 1) 5 i0 (.int .u8 0) 1 1 Try.underlying22 HI.out HZ.out HZ1.out HZ2.out rfl (by decide) _ _ _ rfl (HO3.out.alloc _) ⟨w3.heap.size, 0, none⟩ 1 1 [byV k] rfl rfl (cell_one_new _ _ _) (by intro u hu; simp at hu; subst hu; rfl) (by unfold maxLen; omega) (by omega) (by rw [World.size_alloc]; have := Hz3.out; omega) ?_)
        intro v4 w4 own4 g4 _
        have hb4 : Below w.heap.size w w4 := (Hb3.out.alloc Hb3.out.size _).grown g4 (by rw [World.size_alloc]; have := Hb3.out.size; omega) (fun q e => by have := (World.ownsRow.lt HO3.out q e).1; omega)
        have HF : Hid (EncPost (k, d) w (.returned (.tuple #[v4, .int .i64 0])) w4) := by
          refine HP.out _ _ hb4 ⟨row_at _ _ ?_ (Nat.le_succ _), ?_⟩
          · have e : Lib.byteCells (encR (k, d)) = [Value.int IntKind.u8 ((d.length : Int) % 256), Value.int IntKind.u8 ((d.length : Int) / 256), byV k] ++ Lib.byteCells d ++ [byV k] := by
              unfold encR
              rw [← HU.out.1, ← HU.out.2]
              simp [Lib.byteCells]
            rw [encR_len, e]
            have e2 : 4 + d.length = 3 + d.length + 1 := by omega
            rw [show 4 + (k, d).2.length = 3 + d.length + 1 from e2]
            exact own4
          · rw [encR_len]
            rcases own4.2 with ⟨rfl, h0⟩ | ⟨g, cap, cur, rfl, _⟩
            · omega
            · exact ⟨_, _, by congr 1; show 3 + d.length + 1 = 4 + d.length; omega⟩
        clear hb4 own4 g4
        go_wp2
        refine bodyPost_ret (by simp [results, Try.f16, go_sem]; try rfl) rfl ?_
        exact HF.out
end Go.Proofs.Yteddlpcnefogpaa
