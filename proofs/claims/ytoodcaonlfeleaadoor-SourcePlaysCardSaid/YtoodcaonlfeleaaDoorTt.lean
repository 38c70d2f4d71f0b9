/- source: New, row, heard, Seen, Raise, Frontier, Twin. -/
import Derived.Test.YtoodcaonlfeleaaDoorSr
import Derived.Test.YtoodcaonlfeleaaDoorLd
import Derived.Test.YtoodcaonlfeleaaDoorTa
namespace Go.Proofs.YtoodcaonlfeleaaDoor
open Go Go.Proofs Go.RowKit Go.Shelf
set_option maxRecDepth 100000
attribute [local go_sem] cell_set Oper.semAt_some
theorem rowTab : RowT 67 52 := ⟨⟨_, Tryd.underlying67, rfl⟩, by kernel_rfl⟩
/-- a table in memory -/
abbrev TAt (w : World) (b : Nat) (A : Tb) : Prop := VAt 67 w b (tbC A)
theorem TAt.c0 {w : World} {b : Nat} {A : Tb} (h : TAt w b A) : w.cell? ⟨b, 0, none⟩ = some (.int .i64 A.late) := h.cell rfl
theorem TAt.c1 {w : World} {b : Nat} {A : Tb} (h : TAt w b A) : w.cell? ⟨b, 1, none⟩ = some (.int .i64 A.idle) := h.cell rfl
theorem TAt.c2 {w : World} {b : Nat} {A : Tb} (h : TAt w b A) : w.cell? ⟨b, 2, none⟩ = some (.int .i64 A.ticks) := h.cell rfl
theorem TAt.c3 {w : World} {b : Nat} {A : Tb} (h : TAt w b A) : w.cell? ⟨b, 3, none⟩ = some (.int .i64 A.front) := h.cell rfl
abbrev tp (b : Nat) : Value := .pointer (some ⟨b, 0, none⟩)
def newT (late idle : Int) : Tb := ⟨late, idle, 0, 0, List.replicate 16 ⟨0, 0, 0⟩⟩
/-- may there be such a table -/
def NewOk (late idle : Int) : Prop := (0 ≤ late ∧ late ≤ 4398046511104) ∧ (1 ≤ idle ∧ idle ≤ 1000000)
theorem new_ok {late idle : Int} (h : NewOk late idle) : TbOk 0 (newT late idle) :=
  ⟨by simp [newT], h.1, h.2, by simp [newT], by unfold I64 newT; simp, fun r hr => by
    obtain rfl := List.eq_of_mem_replicate hr
    simp [newT]⟩
def NewPost (late idle : Int) (w : World) (e : Ending) (w' : World) : Prop :=
  (NewOk late idle ∧ e = .returned (.tuple #[tp w.heap.size, .int .i64 0]) ∧ TAt w' w.heap.size (newT late idle) ∧ Below w.heap.size w w') ∨ (¬ NewOk late idle ∧ e = .returned (.tuple #[.pointer none, .int .i64 1]) ∧ w' = w)
set_option maxHeartbeats 4000000 in
theorem new_any (late idle : Int) (w : World) : Calls Tryd.prog 7 #[.int .i64 late, .int .i64 idle] w (NewPost late idle w) := by
  have T := Lib.hid (fun W => spanCheck_any late W)
  by_cases h0 : timeR late = 0
  · rw [h0] at T
    have h1 : 0 ≤ late ∧ late ≤ 4398046511104 := by
      unfold timeR at h0
      split at h0
      · cases h0
      · omega
    by_cases h2 : 1 ≤ idle
    · by_cases h3 : idle ≤ 1000000
      · have q2 : ¬ idle < 1 := by omega
        have q3 : ¬ 1000000 < idle := by omega
        go_enter Tryd.func7, Tryd.ntmps7
        go_wp2_with fail
        refine (T.out _).mono ?_
        rintro e w2 ⟨rfl, rfl⟩
        go_wp2
        refine bodyPost_ret (by simp [results, Tryd.results7, go_sem]; try rfl) rfl ?_
        exact .inl ⟨⟨h1, h2, h3⟩, rfl, vat_new w _ (tbC (newT late idle)), below_cells _⟩
      · have q2 : ¬ idle < 1 := by omega
        have q3 : 1000000 < idle := by omega
        go_enter Tryd.func7, Tryd.ntmps7
        go_wp2_with fail
        refine (T.out _).mono ?_
        rintro e w2 ⟨rfl, rfl⟩
        go_wp2
        refine bodyPost_ret (by simp [results, Tryd.results7, go_sem]; try rfl) rfl ?_
        exact .inr ⟨fun h => absurd h.2.2 (by omega), rfl, rfl⟩
    · have q2 : idle < 1 := by omega
      go_enter Tryd.func7, Tryd.ntmps7
      go_wp2_with fail
      refine (T.out _).mono ?_
      rintro e w2 ⟨rfl, rfl⟩
      go_wp2
      refine bodyPost_ret (by simp [results, Tryd.results7, go_sem]; try rfl) rfl ?_
      exact .inr ⟨fun h => absurd h.2.1 (by omega), rfl, rfl⟩
  · have h1 : ¬ (0 ≤ late ∧ late ≤ 4398046511104) := fun h => h0 (by unfold timeR; rw [if_neg (by omega)])
    have q1 : (timeR late != 0) = true := by simpa using h0
    go_enter Tryd.func7, Tryd.ntmps7
    go_wp2_with fail
    refine (T.out _).mono ?_
    rintro e w2 ⟨rfl, rfl⟩
    go_wp2
    refine bodyPost_ret (by simp [results, Tryd.results7, go_sem]; try rfl) rfl ?_
    exact .inr ⟨fun h => h1 h.1, rfl, rfl⟩
abbrev rowV (r : R3) : Value := .agg #[.int .i64 r.q, .int .i64 r.t, .int .i64 r.k]
theorem heard_any (r : R3) (w : World) : Calls Tryd.prog 31 #[rowV r] w fun e w' => e = .returned (.bool (decide (0 < r.q))) ∧ Below w.heap.size w w' := by
  go_enter Tryd.func31, Tryd.ntmps31
  go_wp2
  go_ret
  exact ⟨rfl, below_cells _⟩
set_option maxHeartbeats 4000000 in
theorem row_any {N : Int} (b : Nat) (A : Tb) (s : Int) (w : World) (hA : TbOk N A) (h : TAt w b A) :
    Calls Tryd.prog 28 #[tp b, .int .i64 s] w fun e w' => e = .returned (rowV (rowR A s)) ∧ Below w.heap.size w w' := by
  by_cases h1 : s < 1
  · have e : rowR A s = ⟨0, 0, 0⟩ := by unfold rowR; rw [if_pos (.inl h1)]
    rw [e]
    clear h hA e
    go_enter Tryd.func28, Tryd.ntmps28
    go_wp2
    refine bodyPost_ret (by simp [results, Tryd.results28, go_sem]; try rfl) rfl ?_
    exact ⟨rfl, by go_grown⟩
  · by_cases h2 : 16 < s
    · have e : rowR A s = ⟨0, 0, 0⟩ := by unfold rowR; rw [if_pos (.inr h2)]
      rw [e]
      clear h hA e
      go_enter Tryd.func28, Tryd.ntmps28
      go_wp2
      refine bodyPost_ret (by simp [results, Tryd.results28, go_sem]; try rfl) rfl ?_
      exact ⟨rfl, by go_grown⟩
    · obtain ⟨i, hi, rfl⟩ : ∃ i : Nat, i < 16 ∧ s = (i : Int) + 1 := ⟨(s - 1).toNat, by omega, by omega⟩
      have e : rowR A ((i : Int) + 1) = nthR A i := by
        unfold rowR; rw [if_neg (by omega)]; congr 1; omega
      have hn : A.rows[i]? = some (nthR A i) := nth_some (by rw [hA.len]; exact hi)
      obtain ⟨t0, t1, t2⟩ := tb_at hn
      have h' := h.alloc (.cells #[.int .i64 0, .int .i64 0, .int .i64 0] 64)
      have c0 := h'.cell t0
      have c1 := h'.cell t1
      have c2 := h'.cell t2
      have hw : wrap64 ((i : Int) + 1 - 1) = (i : Int) := by rw [wr64] <;> omega
      have k0 : ¬ ((i : Int) + 1 < 1) := by omega
      have k1 : ¬ (16 < (i : Int) + 1) := by omega
      have k2 : (0 : Int) ≤ (i : Int) := by omega
      have k3 : (i : Int) < 16 := by omega
      rw [e]
      generalize nthR A i = r at *
      clear h hA e hn t0 t1 t2 h' h1 h2
      go_enter Tryd.func28, Tryd.ntmps28
      go_wp2
      refine bodyPost_ret (by simp [results, Tryd.results28, go_sem]; try rfl) rfl ?_
      exact ⟨rfl, by go_grown⟩
end Go.Proofs.YtoodcaonlfeleaaDoor
