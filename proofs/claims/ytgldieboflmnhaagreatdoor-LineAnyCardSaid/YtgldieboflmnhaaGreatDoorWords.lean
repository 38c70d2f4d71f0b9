/- The words of a line behind its labels, gone through by a method of the numbers: the iterator's contract. -/
import Derived.Test.YtgldieboflmnhaaGreatDoorRangeM
import Derived.Test.YtgldieboflmnhaaGreatDoorOrd6
import Derived.Test.YtgldieboflmnhaaGreatDoorBrW
import Derived.BigRegionIn
namespace Go.Proofs.YtgldieboflmnhaaGreatDoor
open Go Go.Proofs Go.RowKit Go.Shelf
set_option maxRecDepth 100000
attribute [local go_sem] Oper.semAt_some
/-- what stands ahead of each number -/
def markL : Fin 4 → List UInt8
  | 0 => [32]
  | 1 => [32, 64]
  | 2 => [32, 35]
  | 3 => [47]
def wordV (b : Nat) (k : Fin 4) : Value := .agg #[.string ⟨(markL k).toArray⟩, .pointer (some ⟨b, k.val, none⟩)]
theorem wix0 (b : Nat) (W : World) : (Instr.index 84 (.agg #[.string ⟨#[32]⟩, .pointer (some ⟨b, 0, none⟩), .string ⟨#[32, 64]⟩, .pointer (some ⟨b, 1, none⟩), .string ⟨#[32, 35]⟩, .pointer (some ⟨b, 2, none⟩), .string ⟨#[47]⟩, .pointer (some ⟨b, 3, none⟩)]) (.int .i64 0)).run Tryz.prog W = .ok (.agg #[.string ⟨#[32]⟩, .pointer (some ⟨b, 0, none⟩)]) W := by kernel_rfl
theorem wix1 (b : Nat) (W : World) : (Instr.index 84 (.agg #[.string ⟨#[32]⟩, .pointer (some ⟨b, 0, none⟩), .string ⟨#[32, 64]⟩, .pointer (some ⟨b, 1, none⟩), .string ⟨#[32, 35]⟩, .pointer (some ⟨b, 2, none⟩), .string ⟨#[47]⟩, .pointer (some ⟨b, 3, none⟩)]) (.int .i64 1)).run Tryz.prog W = .ok (.agg #[.string ⟨#[32, 64]⟩, .pointer (some ⟨b, 1, none⟩)]) W := by kernel_rfl
theorem wix2 (b : Nat) (W : World) : (Instr.index 84 (.agg #[.string ⟨#[32]⟩, .pointer (some ⟨b, 0, none⟩), .string ⟨#[32, 64]⟩, .pointer (some ⟨b, 1, none⟩), .string ⟨#[32, 35]⟩, .pointer (some ⟨b, 2, none⟩), .string ⟨#[47]⟩, .pointer (some ⟨b, 3, none⟩)]) (.int .i64 2)).run Tryz.prog W = .ok (.agg #[.string ⟨#[32, 35]⟩, .pointer (some ⟨b, 2, none⟩)]) W := by kernel_rfl
theorem wix3 (b : Nat) (W : World) : (Instr.index 84 (.agg #[.string ⟨#[32]⟩, .pointer (some ⟨b, 0, none⟩), .string ⟨#[32, 64]⟩, .pointer (some ⟨b, 1, none⟩), .string ⟨#[32, 35]⟩, .pointer (some ⟨b, 2, none⟩), .string ⟨#[47]⟩, .pointer (some ⟨b, 3, none⟩)]) (.int .i64 3)).run Tryz.prog W = .ok (.agg #[.string ⟨#[47]⟩, .pointer (some ⟨b, 3, none⟩)]) W := by kernel_rfl
set_option maxHeartbeats 4000000 in
theorem words_stops (T : TypeId) (n : Nat) (b n₀ : Nat) (w : World) (hb : b < w.heap.size) :
    SeqStopsM T Fence.wide n Tryz.prog 25 #[.pointer (some ⟨b, 0, none⟩)] #[] (fun x => #[wordV b x]) n₀ (fun xs => xs = [0, 1, 2, 3]) (fun pre => pre <+: [0, 1, 2, 3]) 4 w := fun l J Jx W hW hJ hJx hY h0 => by
  have hbW : b < W.heap.size := Nat.lt_of_lt_of_le hb hW.size
  refine callsIn_of_wp Tryz.func25 rfl trivial ?_ rfl
  simp only [Tryz.ntmps25, List.size_toArray, List.length_cons, List.length_nil, Nat.reduceAdd, Nat.reduceSub, Array.replicate_succ, Array.replicate_zero, List.push_toArray, List.append_toArray, List.nil_append, List.cons_append]
  gi_wp2
  gi_region
  have h0 : J [] W.drew := hJ [] W W.drew none h0 ⟨rfl, rfl, rfl, Nat.le_refl _, fun _ _ _ => rfl⟩ (fun r e => by cases e)
  generalize W.drew = Wd at *
  gi_wp2
  refine wpIn_loop_rounds 5 ?_
  have a0 := hJ [] Wd (Wd.alloc (.cells #[.string ⟨#[32]⟩, .pointer (some ⟨b, 0, none⟩)] 61)) none h0 (World.grownBy_alloc _ _ none) (fun r e => by cases e)
  obtain ⟨f0, t0, s0, b0, y0, R0⟩ := hY [] 0 _ a0 (by simp)
  have z0 : (Instr.yield l #[.agg #[.string ⟨#[32]⟩, .pointer (some ⟨b, 0, none⟩)]]).run Tryz.prog (Wd.alloc (.cells #[.string ⟨#[32]⟩, .pointer (some ⟨b, 0, none⟩)] 61)) = .ok (.round l f0 t0 s0 b0) (Wd.alloc (.cells #[.string ⟨#[32]⟩, .pointer (some ⟨b, 0, none⟩)] 61)) := y0
  clear y0 a0
  have i0 := wix0 b
  rw [roundsIn_succ]
  gi_wp2
  refine ⟨fun h => (by cases h), R0.mono ?_⟩
  rintro e W1 (⟨rfl, hJ1, -, -⟩ | ⟨rfl, hx1, -⟩)
  · gi_wp2
    have a1 := hJ [0] W1 (W1.alloc (.cells #[.string ⟨#[32, 64]⟩, .pointer (some ⟨b, 1, none⟩)] 61)) none hJ1 (World.grownBy_alloc _ _ none) (fun r e => by cases e)
    obtain ⟨f1, t1, s1, b1, y1, R1⟩ := hY [0] 1 _ a1 (by simp)
    have z1 : (Instr.yield l #[.agg #[.string ⟨#[32, 64]⟩, .pointer (some ⟨b, 1, none⟩)]]).run Tryz.prog (W1.alloc (.cells #[.string ⟨#[32, 64]⟩, .pointer (some ⟨b, 1, none⟩)] 61)) = .ok (.round l f1 t1 s1 b1) (W1.alloc (.cells #[.string ⟨#[32, 64]⟩, .pointer (some ⟨b, 1, none⟩)] 61)) := y1
    clear y1 a1
    have i1 := wix1 b
    rw [roundsIn_succ]
    gi_wp2
    refine ⟨fun h => (by cases h), R1.mono ?_⟩
    rintro e W2 (⟨rfl, hJ2, -, -⟩ | ⟨rfl, hx2, -⟩)
    · gi_wp2
      have a2 := hJ [0, 1] W2 (W2.alloc (.cells #[.string ⟨#[32, 35]⟩, .pointer (some ⟨b, 2, none⟩)] 61)) none hJ2 (World.grownBy_alloc _ _ none) (fun r e => by cases e)
      obtain ⟨f2, t2, s2, b2, y2, R2⟩ := hY [0, 1] 2 _ a2 (by simp)
      have z2 : (Instr.yield l #[.agg #[.string ⟨#[32, 35]⟩, .pointer (some ⟨b, 2, none⟩)]]).run Tryz.prog (W2.alloc (.cells #[.string ⟨#[32, 35]⟩, .pointer (some ⟨b, 2, none⟩)] 61)) = .ok (.round l f2 t2 s2 b2) (W2.alloc (.cells #[.string ⟨#[32, 35]⟩, .pointer (some ⟨b, 2, none⟩)] 61)) := y2
      clear y2 a2
      have i2 := wix2 b
      rw [roundsIn_succ]
      gi_wp2
      refine ⟨fun h => (by cases h), R2.mono ?_⟩
      rintro e W3 (⟨rfl, hJ3, -, -⟩ | ⟨rfl, hx3, -⟩)
      · gi_wp2
        have a3 := hJ [0, 1, 2] W3 (W3.alloc (.cells #[.string ⟨#[47]⟩, .pointer (some ⟨b, 3, none⟩)] 61)) none hJ3 (World.grownBy_alloc _ _ none) (fun r e => by cases e)
        obtain ⟨f3, t3, s3, b3, y3, R3⟩ := hY [0, 1, 2] 3 _ a3 (by simp)
        have z3 : (Instr.yield l #[.agg #[.string ⟨#[47]⟩, .pointer (some ⟨b, 3, none⟩)]]).run Tryz.prog (W3.alloc (.cells #[.string ⟨#[47]⟩, .pointer (some ⟨b, 3, none⟩)] 61)) = .ok (.round l f3 t3 s3 b3) (W3.alloc (.cells #[.string ⟨#[47]⟩, .pointer (some ⟨b, 3, none⟩)] 61)) := y3
        clear y3 a3
        have i3 := wix3 b
        rw [roundsIn_succ]
        gi_wp2
        refine ⟨fun h => (by cases h), R3.mono ?_⟩
        rintro e W4 (⟨rfl, hJ4, -, -⟩ | ⟨rfl, hx4, -⟩)
        · gi_wp2
          rw [roundsIn_succ]
          gi_wp2
          go_end0
          exact ⟨⟨_, rfl⟩, .inl ⟨[0, 1, 2, 3], rfl, hJ4⟩⟩
        · gi_wp2
          refine bodyPost_ret (results_none rfl _ _ _) rfl ?_
          exact ⟨⟨_, rfl⟩, .inr ⟨[0, 1, 2, 3], by decide, hx4⟩⟩
      · gi_wp2
        refine bodyPost_ret (results_none rfl _ _ _) rfl ?_
        exact ⟨⟨_, rfl⟩, .inr ⟨[0, 1, 2], by decide, hx3⟩⟩
    · gi_wp2
      refine bodyPost_ret (results_none rfl _ _ _) rfl ?_
      exact ⟨⟨_, rfl⟩, .inr ⟨[0, 1], by decide, hx2⟩⟩
  · gi_wp2
    refine bodyPost_ret (results_none rfl _ _ _) rfl ?_
    exact ⟨⟨_, rfl⟩, .inr ⟨[0], by decide, hx1⟩⟩
end Go.Proofs.YtgldieboflmnhaaGreatDoor
