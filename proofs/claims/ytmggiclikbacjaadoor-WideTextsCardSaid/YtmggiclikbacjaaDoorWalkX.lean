/- Parse: a text as a number of 128 bits, or why it is none. -/
import Derived.Test.YtmggiclikbacjaaDoorWalkQ
import Derived.Test.YtmggiclikbacjaaDoorWalkS
namespace Go.Proofs.YtmggiclikbacjaaDoor
open Go Go.Proofs Go.RowKit
set_option maxRecDepth 100000

theorem cut_any (s : ByteArray) (w : World) :
    Calls Tryd.prog 35 #[.string s, .string ⟨#[45]⟩] w fun e w' => e = .returned (.tuple #[.string ⟨(Lib.trimPrefix s.data.toList [45]).toArray⟩, .bool (Lib.hasPrefix s.data.toList [45])]) ∧ w = w' :=
  (Tryd.strings_CutPrefix s ⟨#[45]⟩ w).mono fun _ _ h => ⟨h.1, h.2.symm⟩

theorem dec_l (d : List UInt8) (hs : d.length ≤ 9223372036854775807) (q : Bool) (hq : isDec d = q) (w : World) :
    Calls Tryd.prog 36 #[.string ⟨d.toArray⟩] w fun e w' => e = .returned (.bool q) ∧ Below w.heap.size w w' := by
  have := decimal_any ⟨d.toArray⟩ w (by simpa [ByteArray.size] using hs)
  simpa [hq] using this

theorem trimPrefix_len (l p : List UInt8) : (Lib.trimPrefix l p).length ≤ l.length := by
  unfold Lib.trimPrefix; split <;> simp

set_option maxHeartbeats 1000000 in
theorem Parse_no (s : ByteArray) (hs : s.size ≤ 9223372036854775807) (hf : isDec (Lib.trimPrefix s.data.toList [45]) = false ∨ (Lib.hasPrefix s.data.toList [45] = true ∧ Lib.trimPrefix s.data.toList [45] = [48])) (w : World) :
    Calls Tryd.prog 18 #[.string s] w fun e w' => e = .returned (.tuple #[.agg #[.int .i64 0, .int .u64 0], .int .i64 2]) ∧ Below w.heap.size w w' := by
  have hl := trimPrefix_len s.data.toList [45]
  have hl' : s.data.toList.length ≤ 9223372036854775807 := by rw [Array.length_toList]; exact hs
  have C := Lib.hid (fun W => cut_any s W)
  generalize Lib.trimPrefix s.data.toList [45] = d at *
  generalize Lib.hasPrefix s.data.toList [45] = b at *
  by_cases hd : isDec d = false
  · have D := Lib.hid (fun W => dec_l d (by omega) false hd W)
    clear hf hd hl hl'
    go_enter Tryd.func18, Tryd.ntmps18
    go_wp2_with fail
    refine (C.out _).mono ?_
    rintro e wc ⟨rfl, rfl⟩
    go_wp2_with fail
    refine (D.out _).mono ?_
    rintro e w1 ⟨rfl, hb⟩
    have hR := (At.new w #[.int .i64 0, .int .u64 0] 24).below hb
    have hB1 : Below w.heap.size w w1 := Below.trans (by go_grown) (hb.mono (by simp))
    clear hb
    have r0 := hR.cell 0 _ rfl
    have r1 := hR.cell 1 _ rfl
    have f0 := hR.free 0 _ rfl
    have f1 := hR.free 1 _ rfl
    go_wp2
    have s0 := same0 r0
    have s1 := same1 r1
    refine bodyPost_ret (v := .tuple #[.agg #[.int .i64 0, .int .u64 0], .int .i64 2]) (by simp [results, Tryd.results18, go_sem, s0, s1]) rfl ⟨rfl, by go_grown⟩
  · have hd' : isDec d = true := by simpa using hd
    rcases hf with h | ⟨hb1, hz⟩
    · exact absurd h hd
    · subst hb1
      subst hz
      have D := Lib.hid (fun W => dec_l [48] (by simp) true hd' W)
      clear hd hl hl' hd'
      go_enter Tryd.func18, Tryd.ntmps18
      go_wp2_with fail
      refine (C.out _).mono ?_
      rintro e wc ⟨rfl, rfl⟩
      go_wp2_with fail
      refine (D.out _).mono ?_
      rintro e w1 ⟨rfl, hb⟩
      have hR := (At.new w #[.int .i64 0, .int .u64 0] 24).below hb
      have hB1 : Below w.heap.size w w1 := Below.trans (by go_grown) (hb.mono (by simp))
      clear hb
      have r0 := hR.cell 0 _ rfl
      have r1 := hR.cell 1 _ rfl
      have f0 := hR.free 0 _ rfl
      have f1 := hR.free 1 _ rfl
      go_wp2
      have s0 := same0 r0
      have s1 := same1 r1
      refine bodyPost_ret (v := .tuple #[.agg #[.int .i64 0, .int .u64 0], .int .i64 2]) (by simp [results, Tryd.results18, go_sem, s0, s1]) rfl ⟨rfl, by go_grown⟩

theorem Parse_long (s : ByteArray) (hs : s.size ≤ 9223372036854775807) (d : List UInt8) (b : Bool) (hd0 : Lib.trimPrefix s.data.toList [45] = d) (hb0 : Lib.hasPrefix s.data.toList [45] = b) (hd : isDec d = true) (hlen : 39 < d.length) (w : World) :
    Calls Tryd.prog 18 #[.string s] w fun e w' => e = .returned (.tuple #[.agg #[.int .i64 0, .int .u64 0], .int .i64 7]) ∧ Below w.heap.size w w' := by
  have hl := trimPrefix_len s.data.toList [45]
  have hl' : s.data.toList.length ≤ 9223372036854775807 := by rw [Array.length_toList]; exact hs
  have C := Lib.hid (fun W => cut_any s W)
  rw [hd0, hb0] at C
  rw [hd0] at hl
  have D := Lib.hid (fun W => dec_l d (by omega) true hd W)
  have hz : (d == [48]) = false := by rw [beq_eq_false_iff_ne]; intro h; rw [h] at hlen; simp at hlen
  have hl2 : d.length ≤ 9223372036854775807 := by omega
  have hlen' : (39 : Int) < (d.length : Int) := by omega
  clear hd hl hl' hd0 hb0 hlen
  cases b
  all_goals
    go_enter Tryd.func18, Tryd.ntmps18
    go_wp2_with fail
    refine (C.out _).mono ?_
    rintro e wc ⟨rfl, rfl⟩
    go_wp2_with fail
    refine (D.out _).mono ?_
    rintro e w1 ⟨rfl, hb⟩
    have hR := (At.new w #[.int .i64 0, .int .u64 0] 24).below hb
    have hB1 : Below w.heap.size w w1 := Below.trans (by go_grown) (hb.mono (by simp))
    clear hb
    have r0 := hR.cell 0 _ rfl
    have r1 := hR.cell 1 _ rfl
    have f0 := hR.free 0 _ rfl
    have f1 := hR.free 1 _ rfl
    go_wp2
    have s0 := same0 r0
    have s1 := same1 r1
    refine bodyPost_ret (v := .tuple #[.agg #[.int .i64 0, .int .u64 0], .int .i64 7]) (by simp [results, Tryd.results18, go_sem, s0, s1]) rfl ⟨rfl, by go_grown⟩

/-- '[]byte(d)': a new row that holds d's bytes. -/
theorem conv_ex (d : List UInt8) (W : World) : ∃ (cap : Nat) (C : Array Value) (fr : Nat × Nat),
    Hid ((convert 9 72 (.string ⟨d.toArray⟩)).run Tryd.prog W = .ok (.slice (some ⟨W.heap.size, 0, none⟩) d.length cap) (W.drew.alloc (.cells C 5 fr))) ∧
    Hid (∀ (k : Nat) (c : UInt8), d[k]? = some c → C[k]? = some (.int .u8 (c.toNat : Int))) := by
  have h := run_bytes_of_string (P := Tryd.prog) W 9 72 5 ⟨d.toArray⟩ Tryd.underlying9 Tryd.underlying72 Tryd.underlying5
  refine ⟨_, _, _, h, ?_⟩
  · intro k c hk
    have hkl : k < d.length := (List.getElem?_eq_some_iff.1 hk).1
    rw [bytesRow_at ⟨d.toArray⟩ _ k (by simpa using hkl)]
    have := (List.getElem?_eq_some_iff.1 hk).2
    simp [this]
theorem cells_new (W : World) (C : Array Value) (T : TypeId) (fr : Nat × Nat) (k : Nat) (v : Value) (h : C[k]? = some v) : (W.alloc (.cells C T fr)).drew.cell? ⟨W.heap.size, k, none⟩ = some v := by
  have hh := heap_alloc_new W (.cells C T fr)
  show (match (W.alloc (.cells C T fr)).heap[W.heap.size]? with | some (.cells c _ _) => c[k]? | _ => none) = some v
  rw [hh]; exact h

/-- the number a decimal with or without a sign tells -/
def signed (b : Bool) (d : List UInt8) : Int := (if b then -1 else 1) * (valD d : Int)

theorem isDec_digits {d : List UInt8} (h : isDec d = true) : ∀ c ∈ d, 48 ≤ c.toNat ∧ c.toNat ≤ 57 := by
  cases d with
  | nil => cases h
  | cons c t =>
    rw [isDec_cons, Bool.and_eq_true] at h
    intro x hx
    have := List.all_eq_true.1 h.1 x hx
    simpa [isDig] using this

set_option maxHeartbeats 2000000 in
theorem Parse_raw (s : ByteArray) (_hs : s.size ≤ 9223372036854775807) (d : List UInt8) (b : Bool) (hd0 : Lib.trimPrefix s.data.toList [45] = d) (hb0 : Lib.hasPrefix s.data.toList [45] = b) (hd : isDec d = true) (hlen : d.length ≤ 39)
    (hnz : ¬ (b = true ∧ d = [48])) (h l e0 : Int)
    (hn : ∀ z0 z1 z2 W, IsL (signed b d) z0 z1 z2 → Calls Tryd.prog 28 #[.agg #[.int .u64 z0, .int .u64 z1, .int .u64 z2]] W fun e w' => e = .returned (.tuple #[.agg #[.int .i64 h, .int .u64 l], .int .i64 e0]) ∧ Below W.heap.size W w') (w : World) :
    Calls Tryd.prog 18 #[.string s] w fun e w' => e = .returned (.tuple #[.agg #[.int .i64 h, .int .u64 l], .int .i64 e0]) ∧ Below w.heap.size w w' := by
  have C := Lib.hid (fun W => cut_any s W)
  rw [hd0, hb0] at C
  have D := Lib.hid (fun W => dec_l d (by omega) true hd W)
  have hdig := isDec_digits hd
  obtain ⟨z0, z1, z2, hzz⟩ := isL_ex (signed b d)
  have N := Lib.hid (fun W => hn z0 z1 z2 W hzz)
  have F := Lib.hid (fun (W : World) (B cap sb : Nat) hB hX hS => foldParse_any B d.length cap sb (if b then -1 else 1) d (by cases b; exact .inl rfl; exact .inr rfl) rfl (by omega) hdig W hB hX hS z0 z1 z2 hzz)
  have hlen' : ¬ (39 : Int) < (d.length : Int) := by omega
  have hz : b = true → (d == [48]) = false := fun hb => by rw [beq_eq_false_iff_ne]; intro hh; exact hnz ⟨hb, hh⟩
  clear hd hd0 hb0 hlen hnz hn hdig hzz
  cases b
  · clear hz
    go_enter Tryd.func18, Tryd.ntmps18
    go_wp2_with fail
    refine (C.out _).mono ?_
    rintro e wc ⟨rfl, rfl⟩
    go_wp2_with fail
    refine (D.out _).mono ?_
    rintro e w1 ⟨rfl, hb⟩
    have hR := (At.new w #[.int .i64 0, .int .u64 0] 24).below hb
    have hB1 : Below w.heap.size w w1 := Below.trans (by go_grown) (hb.mono (by simp))
    clear hb
    obtain ⟨cap, Cs, fr, hcv, hCs⟩ := conv_ex d (w1.alloc (.cells #[.int .i64 (1)] 2))
    have hcv' : (convert 9 72 (.string ⟨d.toArray⟩)).run Tryd.prog (w1.alloc (.cells #[.int .i64 (1)] 2)) = .ok (.slice (some ⟨w1.heap.size + 1, 0, none⟩) d.length cap) (((w1.alloc (.cells #[.int .i64 (1)] 2)).alloc (.cells Cs 5 fr)).drew) := by
      have h := hcv.out; rw [h]; simp; rfl
    clear hcv
    go_wp2_with fail
    refine (F.out _ _ _ w1.heap.size (by simp) (fun k c h => by have := cells_new (w1.alloc (.cells #[.int .i64 (1)] 2)) Cs 5 fr k _ (hCs.out k c h); simpa using this) (((At.new w1 #[.int .i64 (1)] 2).alloc _).drew)).mono ?_
    rintro e w2 ⟨rfl, hb⟩
    have hR2 := (((hR.alloc _).alloc _).drew).below hb
    have hB2 : Below w.heap.size w w2 := Below.trans (((hB1.alloc hB1.size _).alloc (by have := hB1.size; simp; omega) _).drew) (hb.mono (by have := hB1.size; simp; omega))
    clear hb hR hB1 hcv'
    go_wp2_with fail
    refine (N.out _).mono ?_
    rintro e w3 ⟨rfl, hb⟩
    have hR3 := hR2.below hb
    have hB3 : Below w.heap.size w w3 := hB2.trans (hb.mono hB2.size)
    clear hb hR2 hB2
    have r0 := hR3.cell 0 _ rfl
    have r1 := hR3.cell 1 _ rfl
    have f0 := hR3.free 0 _ rfl
    have f1 := hR3.free 1 _ rfl
    go_wp2
    have s0 := same0 r0
    have s1 := same1 r1
    refine bodyPost_ret (v := .tuple #[.agg #[.int .i64 h, .int .u64 l], .int .i64 e0]) (by simp [results, Tryd.results18, go_sem, s0, s1]) rfl ⟨rfl, by go_grown⟩
  · have hz' := hz rfl
    clear hz
    go_enter Tryd.func18, Tryd.ntmps18
    go_wp2_with fail
    refine (C.out _).mono ?_
    rintro e wc ⟨rfl, rfl⟩
    go_wp2_with fail
    refine (D.out _).mono ?_
    rintro e w1 ⟨rfl, hb⟩
    have hR := (At.new w #[.int .i64 0, .int .u64 0] 24).below hb
    have hB1 : Below w.heap.size w w1 := Below.trans (by go_grown) (hb.mono (by simp))
    clear hb
    obtain ⟨cap, Cs, fr, hcv, hCs⟩ := conv_ex d (w1.alloc (.cells #[.int .i64 (-1)] 2))
    have hcv' : (convert 9 72 (.string ⟨d.toArray⟩)).run Tryd.prog (w1.alloc (.cells #[.int .i64 (-1)] 2)) = .ok (.slice (some ⟨w1.heap.size + 1, 0, none⟩) d.length cap) (((w1.alloc (.cells #[.int .i64 (-1)] 2)).alloc (.cells Cs 5 fr)).drew) := by
      have h := hcv.out; rw [h]; simp; rfl
    clear hcv
    go_wp2_with fail
    refine (F.out _ _ _ w1.heap.size (by simp) (fun k c h => by have := cells_new (w1.alloc (.cells #[.int .i64 (-1)] 2)) Cs 5 fr k _ (hCs.out k c h); simpa using this) (((At.new w1 #[.int .i64 (-1)] 2).alloc _).drew)).mono ?_
    rintro e w2 ⟨rfl, hb⟩
    have hR2 := (((hR.alloc _).alloc _).drew).below hb
    have hB2 : Below w.heap.size w w2 := Below.trans (((hB1.alloc hB1.size _).alloc (by have := hB1.size; simp; omega) _).drew) (hb.mono (by have := hB1.size; simp; omega))
    clear hb hR hB1 hcv'
    go_wp2_with fail
    refine (N.out _).mono ?_
    rintro e w3 ⟨rfl, hb⟩
    have hR3 := hR2.below hb
    have hB3 : Below w.heap.size w w3 := hB2.trans (hb.mono hB2.size)
    clear hb hR2 hB2
    have r0 := hR3.cell 0 _ rfl
    have r1 := hR3.cell 1 _ rfl
    have f0 := hR3.free 0 _ rfl
    have f1 := hR3.free 1 _ rfl
    go_wp2
    have s0 := same0 r0
    have s1 := same1 r1
    refine bodyPost_ret (v := .tuple #[.agg #[.int .i64 h, .int .u64 l], .int .i64 e0]) (by simp [results, Tryd.results18, go_sem, s0, s1]) rfl ⟨rfl, by go_grown⟩

/-- Parse of a decimal that fits. -/
theorem Parse_ok (s : ByteArray) (hs : s.size ≤ 9223372036854775807) (d : List UInt8) (b : Bool) (hd0 : Lib.trimPrefix s.data.toList [45] = d) (hb0 : Lib.hasPrefix s.data.toList [45] = b) (hd : isDec d = true) (hlen : d.length ≤ 39)
    (hnz : ¬ (b = true ∧ d = [48])) (h l : Int) (i : InI h l) (hv : val h l = signed b d) (w : World) :
    Calls Tryd.prog 18 #[.string s] w fun e w' => e = .returned (.tuple #[.agg #[.int .i64 h, .int .u64 l], .int .i64 0]) ∧ Below w.heap.size w w' :=
  Parse_raw s hs d b hd0 hb0 hd hlen hnz h l 0 (fun z0 z1 z2 W hz => narrow_ok _ z0 z1 z2 h l hz i hv W) w

theorem valD_lt (d : List UInt8) (hd : ∀ c ∈ d, c.toNat ≤ 57) : valD d < 10 ^ d.length := by
  have h : ∀ k, k ≤ d.length → valD (d.take k) < 10 ^ k := by
    intro k
    induction k with
    | zero => intro _; simp [valD]
    | succ k ih =>
      intro hk
      have h1 := ih (by omega)
      have h2 := hd d[k] (List.getElem_mem (by omega))
      rw [take_snoc_d d k (by omega), valD_snoc, Nat.pow_succ]
      omega
  have := h d.length (Nat.le_refl _)
  rwa [List.take_length] at this
theorem signed_bd (b : Bool) (d : List UInt8) (hd : isDec d = true) (hlen : d.length ≤ 39) : -1000000000000000000000000000000000000000 < signed b d ∧ signed b d < 1000000000000000000000000000000000000000 := by
  have h1 := valD_lt d (fun c hc => (isDec_digits hd c hc).2)
  have h2 : 10 ^ d.length ≤ 10 ^ 39 := Nat.pow_le_pow_right (by omega) hlen
  have h3 : valD d < 10 ^ 39 := Nat.lt_of_lt_of_le h1 h2
  have h4 : valD d < 1000000000000000000000000000000000000000 := by simpa using h3
  unfold signed
  cases b <;> simp <;> omega
/-- Parse of a decimal that does not fit. -/
theorem Parse_over (s : ByteArray) (hs : s.size ≤ 9223372036854775807) (d : List UInt8) (b : Bool) (hd0 : Lib.trimPrefix s.data.toList [45] = d) (hb0 : Lib.hasPrefix s.data.toList [45] = b) (hd : isDec d = true) (hlen : d.length ≤ 39)
    (hnz : ¬ (b = true ∧ d = [48])) (hf : ¬ Fits (signed b d)) (w : World) :
    Calls Tryd.prog 18 #[.string s] w fun e w' => e = .returned (.tuple #[.agg #[.int .i64 0, .int .u64 0], .int .i64 7]) ∧ Below w.heap.size w w' := by
  have hbd := signed_bd b d hd hlen
  exact Parse_raw s hs d b hd0 hb0 hd hlen hnz 0 0 7 (fun z0 z1 z2 W hz => narrow_err _ z0 z1 z2 hz (by omega) (by omega) hf W) w
end Go.Proofs.YtmggiclikbacjaaDoor
