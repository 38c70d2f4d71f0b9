/- hist: two rows of 65 counts compared, where they are alike; loads and comparisons in a drawn region. -/
import Derived.Laws.StructEq
import Derived.Test.YtohmliockehbkaaHd
import Derived.Test.YtohmliockehbkaaTa
namespace Go.Proofs.Ytohmliockehbkaa
open Go Go.Proofs Go.RowKit
set_option maxRecDepth 100000
theorem part_row {h : List Int} {i : Nat} (hi : i < h.length) (w : World) : (part 2 (hc h) i).run Try.prog w = .ok (.int .i64 (nth h i)) w := by
  have e : (hc h)[i]? = some (.int .i64 (nth h i)) := by rw [hc_get, nth_some hi]; rfl
  simp [Go.part, e, Result.andThen]
theorem eq_row_d {h : List Int} (hl : h.length = 65) (d e : Nat) (hd : d = e + 1) (w : World) : (Op.equalIn (d + 1) 25 (.agg (hc h)) (.agg (hc h))).run Try.prog w = .ok true w := by
  have hsz : (sizeOf 2).run Try.prog w = .ok 1 w := Try.sizeOf2 w
  simp only [Op.equalIn, Sem.run_bind, run_underlying Try.underlying25, Result.andThen_ok, hsz, Nat.mul_one]
  rw [Std.Legacy.Range.forIn_eq_forIn_range']
  have key : ∀ (is : List Nat), (∀ i ∈ is, i < h.length) → (forIn is ((none, ()) : Option Bool × Unit) fun i _ => do
      let a ← part 2 (hc h) i
      let b ← part 2 (hc h) i
      let r ← Op.equalIn d 2 a b
      if (!r) = true then pure (ForInStep.done (some false, ())) else do
        pure PUnit.unit
        pure (ForInStep.yield (none, ()))).run Try.prog w = .ok (none, ()) w := by
    intro is
    induction is with
    | nil => intro _; rfl
    | cons i is ih =>
      intro hi
      have h1 := part_row (hi i (by simp)) w
      have h2 := ih (fun j hj => hi j (by simp [hj]))
      rw [List.forIn_cons]
      simp only [Sem.run_bind, h1, Result.andThen_ok]
      rw [hd, run_equalIn_int w e 2 .i64 .i64 _ _ Try.underlying2]
      simp only [Result.andThen_ok, beq_self_eq_true, Bool.not_true, Bool.false_eq_true, if_false, Sem.run_bind, Sem.run_pure]
      rw [hd] at h2
      exact h2
  have k2 := key (List.range' 0 65 1) (fun i hi => by have := List.mem_range'.1 hi; omega)
  rw [show List.range' [:65].start [:65].size [:65].step = List.range' 0 65 1 from rfl]
  refine Eq.trans (congrArg (fun r => Result.andThen r _) k2) ?_
  rfl
theorem eqY_row {ops : Array Oper} {C : World → Prop} {o : Oper} {a : Act} {x y : Operand} {t' : TypeId} {h : List Int} (hl : h.length = 65) (hw : Region.wanted o (yielded ops a.tmps) = true) (ho : o.op = .binOp .eql 25 x y t') (hx : a.eval x = .agg (hc h)) (hy : a.eval y = .agg (hc h)) :
    YieldsIf Try.prog ops C o (.bool true) a := by
  refine .inl ⟨hw, fun w _ => ?_⟩
  have e1 := eq_row_d hl 9999 9998 rfl w
  unfold execOp
  simp only [ho, hx, hy, Sem.run_bind, run_eqGuard_agg w .eql 25 x y (hc h) (hc h) Try.eqGuardType25, Result.andThen_ok, run_eql_struct, e1, Sem.run_pure]
theorem ldY_row {ops : Array Oper} {C : World → Prop} {o : Oper} {a : Act} {x : Operand} {b : Nat} {h : List Int} (hC : ∀ u, C u → HAt 25 u b h) (hw : Region.wanted o (yielded ops a.tmps) = true) (ho : o.op = .load 25 x) (hx : a.eval x = .pointer (some ⟨b, 0, none⟩)) :
    YieldsIf Try.prog ops C o (.agg (hc h)) a := by
  refine .inl ⟨hw, fun w hw => ?_⟩
  have H := hC w hw
  unfold execOp
  simp only [ho, hx, Instr.loadAt, Instr.sureAddr, Sem.run_bind, Sem.run_pure, Result.andThen_ok, run_loadVar_row w b _ _ (hc h) (0, 0) _ H.blk rowH.und rfl (rowH.size H.len)]
end Go.Proofs.Ytohmliockehbkaa
