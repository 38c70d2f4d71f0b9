/- (*Log).Add of a log whose disk is as it left it. -/
import Derived.Test.YteddlpcnefogpaaJnL
namespace Go.Proofs.Yteddlpcnefogpaa
open Go Go.Proofs Go.RowKit Go.Shelf
set_option maxRecDepth 100000
attribute [local go_sem] Oper.semAt_some
theorem encPost_ok {r : Rec} (h : OkR r) {w w' : World} {e : Ending} (p : EncPost r w e w') : Below w.heap.size w w' ∧ ∃ a c, e = .returned (.tuple #[.slice a (encR r).length c, .int .i64 0]) ∧ Dat w.heap.size w' (.slice a (encR r).length c) (encR r) := by
  unfold EncPost at p
  rw [if_neg (by have := h.2; omega), if_neg h.1] at p
  obtain ⟨hb, v, he, hd⟩ := p
  obtain ⟨a, c, rfl⟩ := hd.2
  exact ⟨hb, a, c, he, hd⟩
theorem append_ops (d : Dk) (z : List UInt8) : (d.append z).1 = 0 ∨ (d.append z).1 = 13 := by
  unfold Dk.append
  split
  · exact .inr rfl
  · exact Dk.fin_01 _
def AddPost (base lb b : Nat) (v : Value) (n c m : Int) (R : Int × Dk) (w : World) (e : Ending) (w' : World) : Prop :=
  ∃ v', e = .returned (.int .i64 R.1) ∧ LgAt base w' lb b v' R.2 (if R.1 = 0 then m else n) (if R.1 = 0 then c + 1 else c) ∧ LTo w w' lb b v v'
set_option maxHeartbeats 8000000 in
theorem add_any (base lb b : Nat) (v : Value) (d : Dk) (c : Int) (k : UInt8) (a : Option Addr) (ca : Nat) (x : List UInt8) (w : World) (h : LgAt base w lb b v d (d.row.length : Int) c) (hx : BysC w a x.length ca x) (hr : OkR (k, x)) (hoff : d.off = false)
    (hops : d.ops < 4611686018427387904) (hbig : d.row.length + (4 + x.length) ≤ 549755813888) (hc0 : 0 ≤ c) (hc : c ≤ 1099511627776) :
    Calls Try.prog 21 #[.pointer (some ⟨lb, 0, none⟩), .agg #[byV k, .slice a x.length ca]] w (AddPost base lb b v (d.row.length : Int) c ((d.row.length + (encR (k, x)).length : Nat) : Int) (d.append (encR (k, x))) w) := by
  have HE := Lib.hid (encode_any k a ca x (w.alloc (.cells #[byV k, .slice a x.length ca] 42)) (hx.below (below_cells _)) (by have := hr.2; dsimp only at this; omega))
  have HR := Lib.hid hr
  have el : (encR (k, x)).length = 4 + x.length := encR_len (k, x)
  have HH := Lib.hid h
  have hge := h.dk.ge
  have hlt := h.dk.lt
  have h01 := append_ops d (encR (k, x))
  clear h hx hr
  refine (callsIn_wide (n := 9)).1 ?_
  refine callsIn_of_wp Try.func21 rfl trivial ?_ rfl
  simp only [Try.ntmps21, List.size_toArray, List.length_cons, List.length_nil, Nat.reduceAdd, Nat.reduceSub, Array.replicate_succ, Array.replicate_zero, List.push_toArray, List.append_toArray, List.nil_append, List.cons_append]
  gi_wp2_with fail
  refine ⟨trivial, (callsIn_wide.2 HE.out).mono ?_⟩
  intro e w1 hp
  obtain ⟨hb1, ea, ec, rfl, hd1⟩ := encPost_ok HR.out hp
  obtain ⟨E, hE⟩ : ∃ E, encR (k, x) = E := ⟨_, rfl⟩
  rw [hE] at hd1 el h01 ⊢
  have hg1 : w.grownBy w1 none := grownBy_trans (World.grownBy_alloc w _ none) (grown_below hb1) (fun g e => by cases e)
  have L1 := HH.out.grow hg1
  have HD := Lib.hid (down_any base lb b v d _ c w1 L1)
  rw [hoff] at HD
  have cA := L1.at.f3
  have HL1 := Lib.hid L1
  have HG1 := Lib.hid hg1
  have HD1 := Lib.hid hd1
  have HEl := Lib.hid el
  have H01 := Lib.hid h01
  clear hb1 hp hg1 L1 hd1 HE el h01
  gi_wp2_with fail
  refine ⟨trivial, (callsIn_wide.2 HD.out).mono ?_⟩
  rintro e w1' ⟨rfl, rfl⟩
  gi_wp2_with fail
  have hS : w1.drew.cell? ⟨lb, 0, none⟩ = some (.pointer (some ⟨b, 0, none⟩)) ∧ w1.drew.cell? ⟨lb, 1, none⟩ = some (.int .i64 (d.row.length : Int)) := ⟨cA.1, cA.2.2.1⟩
  refine region_anyM (S := fun u => u.cell? ⟨lb, 0, none⟩ = some (.pointer (some ⟨b, 0, none⟩)) ∧ u.cell? ⟨lb, 1, none⟩ = some (.int .i64 (d.row.length : Int))) 10 (by kernel_rfl) (fun hS => ?_) hS
  refine anyM_d 0 [0, 1, 2, 3, 4, 9, 10] hS ?_
  refine anyM_d 1 [1, 2, 3, 4, 9, 10] hS ?_
  refine anyM_d 2 [2, 3, 4, 9, 10] hS ?_
  refine anyM_d 3 [3, 4, 9, 10] hS ?_
  refine anyM_d 5 [5, 6, 7, 8, 9, 10] hS ?_
  refine anyM_d 6 [6, 7, 8, 9, 10] hS ?_
  refine anyM_d 7 [7, 8, 9, 10] hS ?_
  refine anyM_d 8 [8, 9, 10] hS ?_
  have H4 := Lib.hid (len_any base b v d w1.drew (HL1.out.dk.drewN 1))
  refine anyM_o 4 (fun K hK => ?_)
  go_simp
  refine ⟨trivial, ?_⟩
  refine (callsIn_wide.2 H4.out).mono ?_
  rintro e w2 ⟨rfl, rfl⟩
  dsimp only
  refine hK _ _ hS ?_
  clear hK K
  refine anyM_d 9 [9, 10] (v := .bool false) hS ?_
  refine anyM_l (fun K hK => ?_)
  go_simp
  refine hK _ _ ?_
  clear hK K hS H4
  refine anyIn_done (by kernel_rfl) ?_ _
  gi_wp2_with fail
  have hS : w1.drew.drew.cell? ⟨lb, 0, none⟩ = some (.pointer (some ⟨b, 0, none⟩)) ∧ w1.drew.drew.cell? ⟨lb, 1, none⟩ = some (.int .i64 (d.row.length : Int)) ∧ w1.drew.drew.cell? ⟨lb, 2, none⟩ = some (.int .i64 c) := ⟨cA.1, cA.2.2.1, cA.2.2.2.2.1⟩
  have s1 : IntKind.i64.wrap ((d.row.length : Int) + (E.length : Int)) = ((d.row.length + E.length : Nat) : Int) := by have := HEl.out; rw [IntKind.wrap_i64]; omega
  have s2 : IntKind.i64.wrap (c + 1) = c + 1 := by rw [IntKind.wrap_i64]; omega
  refine region_anyM (S := fun u => u.cell? ⟨lb, 0, none⟩ = some (.pointer (some ⟨b, 0, none⟩)) ∧ u.cell? ⟨lb, 1, none⟩ = some (.int .i64 (d.row.length : Int)) ∧ u.cell? ⟨lb, 2, none⟩ = some (.int .i64 c)) 19 (by kernel_rfl) (fun hS => ?_) hS
  refine anyM_d 0 [0, 19] hS ?_
  refine anyM_d 1 [1, 2, 3, 4, 6, 19] hS ?_
  refine anyM_d 2 [2, 3, 4, 6, 19] hS ?_
  refine anyM_d 3 [3, 4, 6, 19] hS ?_
  refine anyM_d 4 [4, 6, 19] hS ?_
  refine anyM_d 5 [5, 6, 19] hS ?_
  refine anyM_d 7 [7, 8, 9, 10, 13, 19] hS ?_
  refine anyM_d 8 [8, 9, 10, 13, 19] hS ?_
  refine anyM_d 9 [9, 10, 13, 19] hS ?_
  refine anyM_d 10 [10, 13, 19] hS ?_
  refine anyM_d 11 [11, 12, 13, 19] hS ?_
  refine anyM_d 12 [12, 13, 19] hS ?_
  refine anyM_d 13 [13, 19] (v := .int .i64 ((d.row.length + E.length : Nat) : Int)) hS ?_
  refine anyM_d 14 [14, 15, 16, 17, 18, 19] hS ?_
  refine anyM_d 15 [15, 16, 17, 18, 19] hS ?_
  refine anyM_d 16 [16, 17, 18, 19] hS ?_
  refine anyM_d 17 [17, 18, 19] hS ?_
  refine anyM_d 18 [18, 19] (v := .int .i64 (c + 1)) hS ?_
  have hap : ∀ g, (Value.slice ea E.length ec).ownBlock = some g → v.ownBlock ≠ some g := fun g e q => by
    have h1 := (World.ownsRow.lt HD1.out.1 g e).1
    have h2 := (World.ownsRow.lt HH.out.dk.own g q).2
    simp at h1
    omega
  have H6 := Lib.hid (append_any base b v (.slice ea E.length ec) d E (w1.drew.drew) (HL1.out.dk.drewN 2) (BysC.of_dat HD1.out).bys (fun _ => hap) hops (by rw [HEl.out]; exact hbig))
  refine anyM_o 6 (fun K hK => ?_)
  go_simp
  refine ⟨trivial, ?_⟩
  refine (callsIn_wide.2 H6.out).mono ?_
  rintro e w2 ⟨rfl, v2, D2, T2⟩
  have L2 := (HL1.out.drewN 2).op T2 D2
  have T02 : LTo w w2 lb b v v2 := ((LTo.grown HG1.out).trans (LTo.grown (w' := w1.drewN 2) ⟨rfl, rfl, rfl, Nat.le_refl _, fun _ _ _ => rfl⟩)).trans (LTo.of T2 lb)
  have cA2 := L2.at.f3
  have hS2 : w2.cell? ⟨lb, 0, none⟩ = some (.pointer (some ⟨b, 0, none⟩)) ∧ w2.cell? ⟨lb, 1, none⟩ = some (.int .i64 (d.row.length : Int)) ∧ w2.cell? ⟨lb, 2, none⟩ = some (.int .i64 c) := ⟨cA2.1, cA2.2.2.1, cA2.2.2.2.2.1⟩
  have H19 := left_any base lb b v2 _ (d.row.length : Int) c (d.append E).1 ((d.row.length + E.length : Nat) : Int) (c + 1) w2 L2
  have HT2 := Lib.hid T02
  clear D2 T2 L2 T02 hS H6 cA
  dsimp only
  refine hK _ _ hS2 ?_
  clear hK K
  have H19 := Lib.hid H19
  refine anyM_l (fun K hK => ?_)
  go_simp
  refine ⟨trivial, ?_⟩
  refine (callsIn_wide.2 H19.out).mono ?_
  rintro e w3 ⟨rfl, L3, T3⟩
  have HP : Hid (AddPost base lb b v (d.row.length : Int) c ((d.row.length + E.length : Nat) : Int) (d.append E) w (.returned (.int .i64 (d.append E).1)) w3) := ⟨v2, rfl, L3, HT2.out.trans T3⟩
  clear L3 T3 H19
  dsimp only
  refine hK _ _ ?_
  clear hK K
  refine anyI_o 20 (fun K hK => ?_)
  go_simp
  refine hK _ _ ?_
  clear hK K
  refine anyIn_done (by kernel_rfl) ?_ _
  gi_wp2
  go_ret
  rw [hE]
  exact HP.out
end Go.Proofs.Yteddlpcnefogpaa
