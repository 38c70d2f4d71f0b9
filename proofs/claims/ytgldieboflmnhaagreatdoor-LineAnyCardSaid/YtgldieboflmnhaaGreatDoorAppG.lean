/- strconv.AppendUint, AppendInt at base 10, behind a row of bytes that a text was turned into. -/
import Derived.Test.YtgldieboflmnhaaGreatDoorMark
import Derived.Test.YtgldieboflmnhaaGreatDoorOrd6
import Derived.Test.YtgldieboflmnhaaGreatDoorShelf
import Derived.Test.YtgldieboflmnhaaGreatDoorTxt
import Derived.Test.YtgldieboflmnhaaGreatDoorRows
import Derived.Shelf.Strconv.AppendInt10
namespace Go.Proofs.YtgldieboflmnhaaGreatDoor
open Go Go.Proofs Go.RowKit Go.Shelf Go.Sort
set_option maxRecDepth 100000
attribute [local go_sem] Oper.semAt_some
theorem wpList_appG {P : Program} {ops : Array Oper} {rest : List Oper} {o : Oper} {a : Act} {w w' : World} {Q : Exit → Act → World → Prop} (hgd : o.guard = none) (sl x : Operand) (t u : TypeId)
    (ho : o.op = .call { callee := .builtin .append, args := #[sl, x], argTypes := #[t, u] }) {v y v' : Value} (hs : a.eval sl = v) (hx : a.eval x = y)
    (hr : (Builtin.append_ #[t, u] o.type #[v, y]).run P w = .ok v' w') (h : wpList P ops Q rest (a.put o.dst v') w') : wpList P ops Q (o :: rest) a w := by
  refine wpList_plain hgd fun K hK => ?_
  unfold Oper.wp execOp
  simp only [ho, resolve, invoke, builtin, Sem.run_bind, Sem.run_pure, Result.andThen_ok, List.map_toArray, List.map_cons, List.map_nil, hs, hx, hr]
  exact hK _ _ h
theorem appUint_small (B n u : Nat) (hu : u < 100) (sv : Value) (xs : List Value) (w : World) (hown : OwnG w B 5 sv n xs) (hBw : B ≤ w.heap.size) (hlim : n + 20 ≤ 140737488355328) :
    Calls Tryz.prog 56 #[sv, .int .u64 (u : Int), .int .i64 10] w fun e w' => ∃ v', e = .returned v' ∧ OwnG w' B 5 v' (n + (Lib.decDigits u).length) (xs ++ Lib.byteCells (Lib.decDigits u)) ∧ Below B w w' ∧ Lib.OthersKept 5 none w w' := by
  obtain ⟨i0, hi, hz0, hz1, hz2⟩ := info_parts info_u8
  have hlen : (Lib.decDigits u).length ≤ 20 := by
    rw [Lib.decDigits_length]
    by_cases h10 : u < 10
    · rw [Lib.nDigits_small h10]; omega
    · rw [Lib.nDigits_big h10, Lib.nDigits_small (show u / 10 < 10 by omega)]; omega
  have hsz : (⟨(Lib.decDigits u).toArray⟩ : ByteArray).size = (Lib.decDigits u).length := by simp [ByteArray.size]
  have SM := Lib.hid (fun W => Tryz.internal_strconv_small u hu W)
  obtain ⟨v', w', hr, hown', hgrow⟩ := run_append_strG (P := Tryz.prog) w B 56 9 56 5 i0 Tryz.underlying56 Tryz.underlying9 hi hz0 hz1 hz2 sv n xs hown ⟨(Lib.decDigits u).toArray⟩ (by rw [hsz]; unfold maxLen; omega) (by rw [hsz]; omega) hBw
  have hb : Below B w w' := (Below.refl B _).grown hgrow hBw (fun k hk => (hown.lt k hk).1)
  have hk : Lib.OthersKept 5 none w w' := (Lib.OthersKept.refl _ _ _).grown hgrow hown.kind
  rw [hsz] at hown'
  have HO := Lib.hid hown'
  have HR := Lib.hid hr
  clear hown hown' hgrow hr hi hz0 hz1 hz2 hlen
  go_enter Tryz.func56, Tryz.ntmps56
  go_wp2_with (first
    | (go_at_call 69; refine (SM.out _).mono ?_; rintro e w1 ⟨rfl, rfl⟩)
    | (at_builtin; refine wpList_appG rfl _ _ 56 9 rfl rfl rfl HR.out ?_))
  go_wp2
  go_ret
  exact ⟨v', rfl, HO.out, hb, hk⟩
/-- the name of the library's table of powers of ten -/
def powName : String := (Rows.lineAnyRow.named[4]?).getD Rows.lineAnyRow.func
def Tab (w : World) : Prop := Lib.TabIs Tryz.prog w powName .u64 Lib.pow10Tab
theorem Tab.below {w w' : World} (h : Tab w) (hb : Below w.heap.size w w') : Tab w' := by
  unfold Tab Lib.TabIs World.var? at *
  cases hg : Tryz.prog.globalNamed powName with
  | none => simp [hg] at h
  | some g =>
    simp only [hg, Option.bind_some] at h ⊢
    have hlt : g < w.heap.size := by
      rcases Nat.lt_or_ge g w.heap.size with h' | h'
      · exact h'
      · rw [Array.getElem?_eq_none h'] at h; simp at h
    rw [hb.block g hlt]
    exact h
theorem wide_of_array (W : World) (b k : Nat) (hk : k ≤ 24) : (Instr.sliceAt 122 (.pointer (some ⟨b, 0, none⟩)) none (some (.int .i64 (k : Int))) none).run Tryz.prog W = .ok (.slice (some ⟨b, 0, none⟩) k 24) W := by
  have hal : Tryz.prog.arrayLen 122 = 24 := by kernel_rfl
  rw [run_sliceAt_array_h W 122 ⟨b, 0, none⟩ (by simp [Program.arrayLen, Program.elem, Tryz.underlying122]) .i64 (k : Int) (by omega) (by rw [hal]; omega)]
  go_simp
set_option maxHeartbeats 4000000 in
theorem appUint_big (B n u : Nat) (hu : 100 ≤ u) (hu64 : u < 18446744073709551616) (sv : Value) (xs : List Value) (w : World) (hown : OwnG w B 5 sv n xs) (hBw : B ≤ w.heap.size) (hlim : n + 20 ≤ 140737488355328) (ht : Tab w) :
    Calls Tryz.prog 56 #[sv, .int .u64 (u : Int), .int .i64 10] w fun e w' => ∃ v', e = .returned v' ∧ OwnG w' B 5 v' (n + (Lib.decDigits u).length) (xs ++ Lib.byteCells (Lib.decDigits u)) ∧ Below B w w' ∧ Lib.OthersKept 5 none w w' := by
  obtain ⟨i0, hi, hz0, hz1, hz2⟩ := info_parts info_u8
  have hu1 : 1 ≤ u := by omega
  have hnd20 : Lib.nDigits u ≤ 20 := by have := Lib.numDigits_eq u hu1 hu64; split at this <;> omega
  have ND := Lib.hid (fun W (hT : Tab W) => Any.internal_strconv_numDigits Tryz.laysM284 u hu1 hu64 W hT)
  have SL := Lib.hid (fun W => wide_of_array W w.heap.size (Lib.nDigits u) (by omega))
  have hH0 := Lib.holds_zero0 w 122 (Lib.nDigits u) (by omega)
  have hfmt := Tryz.internal_strconv_formatBase10 w.heap.size 0 24 u (Array.replicate (Lib.nDigits u) 0) (w.alloc (.cells Lib.zeros24 122)) hH0 (by rw [Array.size_replicate]; exact Lib.lt_pow_nDigits u) hu64 (by rw [Array.size_replicate]; omega)
  rw [Array.size_replicate] at hfmt
  have FM := Lib.hid hfmt
  have HH0 := Lib.hid hH0
  have htA : Tab (w.alloc (.cells Lib.zeros24 122)) := ht.below (below_cells _)
  have iu : (100 : Int) ≤ (u : Int) := by omega
  have iu2 : ¬ ((u : Int) < 100) := by omega
  have HO := Lib.hid hown
  clear hH0 hfmt hown
  go_enter Tryz.func56, Tryz.ntmps56
  go_wp2_with fail
  refine (ND.out _ htA).mono ?_
  rintro e w' ⟨rfl, rfl⟩
  have sl := SL.out
  go_wp2_with fail
  refine FM.out.mono ?_
  rintro e w' ⟨rfl, k, v', dk, rfl, hF⟩
  clear sl
  have hcells : ∀ j u', (Lib.byteCells (Lib.decDigits u))[j]? = some u' → ((putRow (fun (b : UInt8) => Value.int .u8 (b.toNat : Int)) (w.alloc (.cells Lib.zeros24 122)) w.heap.size 0 dk).drewN k).cell? ((⟨w.heap.size, 0, none⟩ : Addr).add j) = some u' := by
    intro j u' hj
    have hjl : j < (Lib.decDigits u).length := by
      have h5 := (List.getElem?_eq_some_iff.1 hj).1
      rwa [Lib.byteCells_length] at h5
    have e5 : (Lib.byteCells (Lib.decDigits u))[j]? = some (Value.int .u8 ((Lib.decDigits u)[j].toNat : Int)) := by simp [Lib.byteCells, hjl]
    rw [e5] at hj
    cases hj
    rw [Lib.row_is_numeral hF j hjl, Lib.add_plain, World.cell?_drewN]
    exact cell?_putRow (fun (b : UInt8) => Value.int .u8 (b.toNat : Int)) _ w.heap.size 0 _ dk HH0.out (by rw [hF.size, Array.size_replicate]) j (by rw [hF.size]; rw [Lib.decDigits_length] at hjl; exact hjl)
  obtain ⟨os, eo⟩ := Lib.fin_at w (.cells Lib.zeros24 122) dk k 0
  have hb2 : Below w.heap.size w ((putRow (fun (b : UInt8) => Value.int .u8 (b.toNat : Int)) (w.alloc (.cells Lib.zeros24 122)) w.heap.size 0 dk).drewN k) := by rw [eo]; exact Lib.below_grow w.heap.size w (Nat.le_refl _) k os
  generalize (putRow (fun (b : UInt8) => Value.int .u8 (b.toNat : Int)) (w.alloc (.cells Lib.zeros24 122)) w.heap.size 0 dk).drewN k = W2 at hcells hb2 ⊢
  clear eo HH0 FM ND hF
  have hnx2 : Below B w W2 := hb2.mono hBw
  have hok2 : Lib.OthersKept 5 none w W2 := (Lib.OthersKept.refl _ _ w).below hb2
  have hown2 : OwnG W2 B 5 sv n xs := HO.out.below hb2
  have hsz2 : B ≤ W2.heap.size := Nat.le_trans hBw hb2.size
  have hdl : (Lib.decDigits u).length = Lib.nDigits u := Lib.decDigits_length u
  obtain ⟨v', w', hr, hown', hgrow⟩ := run_append_rowG (P := Tryz.prog) W2 B 56 56 5 i0 Tryz.underlying56 hi hz0 hz1 hz2 sv n xs hown2 ⟨w.heap.size, 0, none⟩ (Lib.nDigits u) 24 (Lib.byteCells (Lib.decDigits u)) (by rw [Lib.byteCells_length, hdl]) hcells (by intro u' hu'; simp only [Lib.byteCells, List.mem_map] at hu'; obtain ⟨b, _, rfl⟩ := hu'; rfl) (by unfold maxLen; omega) (by omega) hsz2
  have hb : Below B w w' := hnx2.grown hgrow hsz2 (fun k hk => (hown2.lt k hk).1)
  have hk : Lib.OthersKept 5 none w w' := hok2.grown hgrow hown2.kind
  rw [← hdl] at hown'
  have HO2 := Lib.hid hown'
  have HR := Lib.hid hr
  have sl := SL.out
  clear hown' hgrow hr hi hz0 hz1 hz2 hown2 hcells HO
  go_wp2_with (at_builtin; refine wpList_appG rfl _ _ 56 56 rfl rfl rfl HR.out ?_)
  go_wp2
  go_ret
  exact ⟨v', rfl, HO2.out, hb, hk⟩
theorem appUint_any (B n u : Nat) (hu64 : u < 18446744073709551616) (sv : Value) (xs : List Value) (w : World) (hown : OwnG w B 5 sv n xs) (hBw : B ≤ w.heap.size) (hlim : n + 20 ≤ 140737488355328) (ht : Tab w) :
    Calls Tryz.prog 56 #[sv, .int .u64 (u : Int), .int .i64 10] w fun e w' => ∃ v', e = .returned v' ∧ OwnG w' B 5 v' (n + (Lib.decDigits u).length) (xs ++ Lib.byteCells (Lib.decDigits u)) ∧ Below B w w' ∧ Lib.OthersKept 5 none w w' := by
  by_cases h : u < 100
  · exact appUint_small B n u h sv xs w hown hBw hlim
  · exact appUint_big B n u (by omega) hu64 sv xs w hown hBw hlim ht
def TabB (B : Nat) (w : World) : Prop := ∀ w', Below B w w' → Tab w'
theorem Tab.from {w W : World} (h : Tab w) (hb : Below w.heap.size w W) : TabB w.heap.size W := fun _ h' => h.below (hb.trans h')
set_option maxHeartbeats 4000000 in
theorem appInt_in (B n : Nat) (i : Int) (h0 : -9223372036854775808 ≤ i) (h1 : i ≤ 9223372036854775807) (sv : Value) (xs : List Value) (w : World) (hown : OwnG w B 5 sv n xs) (hBw : B ≤ w.heap.size) (hlim : n + 21 ≤ 140737488355328) (ht : TabB B w) :
    Calls Tryz.prog 41 #[sv, .int .i64 i, .int .i64 10] w fun e w' => ∃ v', e = .returned v' ∧ OwnG w' B 5 v' (n + (Lib.itoa i).length) (xs ++ Lib.byteCells (Lib.itoa i)) ∧ Below B w w' ∧ Lib.OthersKept 5 none w w' := by
  by_cases hneg : i < 0
  · obtain ⟨u, rfl⟩ : ∃ u : Nat, i = -(u : Int) := ⟨i.natAbs, by omega⟩
    have hu1 : 1 ≤ u := by omega
    have hu64 : u < 18446744073709551616 := by omega
    have hwr : IntKind.u64.wrap (-IntKind.u64.wrap (-(u : Int))) = (u : Int) := by rw [IntKind.wrap_u64, IntKind.wrap_u64]; omega
    obtain ⟨i0, hi, hz0, hz1, hz2⟩ := info_parts info_u8
    have hA : At (w.alloc (.cells #[.int .u8 45] 5)) w.heap.size [.int .u8 45] := At.new w #[.int .u8 45] 5
    obtain ⟨v1, w1, hr, hown1, hgrow⟩ := run_append_rowG (P := Tryz.prog) (w.alloc (.cells #[.int .u8 45] 5)) B 56 56 5 i0 Tryz.underlying56 hi hz0 hz1 hz2 sv n xs (hown.alloc _) ⟨w.heap.size, 0, none⟩ 1 1 [.int .u8 45] rfl (fun j u' hj => by rw [Lib.add_plain]; simpa using hA.cell j u' hj) (by intro u' hu'; simp at hu'; subst hu'; rfl) (by unfold maxLen; omega) (by omega) (by simp; omega)
    have hb1 : Below B w w1 := ((Below.refl B w).alloc hBw _).grown hgrow (by simp; omega) (fun k hk => (hown.lt k hk).1)
    have hk1 : Lib.OthersKept 5 none w w1 := ((Lib.OthersKept.refl _ _ w).alloc _).grown hgrow (hown.alloc _).kind
    have ht1 : Tab w1 := ht w1 hb1
    have HR := Lib.hid hr
    have AU := Lib.hid (appUint_any B (n + 1) u hu64 v1 _ w1 hown1 (Nat.le_trans hBw hb1.size) (by omega) ht1)
    clear hr hown1 hgrow hi hz0 hz1 hz2 hA hown
    rw [Lib.itoa_neg u hu1]
    go_enter Tryz.func41, Tryz.ntmps41
    go_wp2_with (at_builtin; refine wpList_appG rfl _ _ 56 56 rfl rfl rfl HR.out ?_)
    go_wp2_with fail
    refine AU.out.mono ?_
    rintro e w2 ⟨v2, rfl, hown2, hb2, hk2⟩
    go_wp2
    go_ret
    refine ⟨v2, rfl, ?_, hb1.trans hb2, hk1.trans hk2⟩
    have e1 : n + ((Lib.decDigits u).length + 1) = n + 1 + (Lib.decDigits u).length := by omega
    have e2 : xs ++ Lib.byteCells (45 :: Lib.decDigits u) = xs ++ [Value.int .u8 45] ++ Lib.byteCells (Lib.decDigits u) := by simp [Lib.byteCells]
    rw [e1, e2]
    exact hown2
  · obtain ⟨u, rfl⟩ : ∃ u : Nat, i = u := ⟨i.toNat, by omega⟩
    have hu64 : u < 18446744073709551616 := by omega
    have AU := Lib.hid (appUint_any B n u hu64 sv xs w hown hBw (by omega) (ht w (Below.refl _ _)))
    rw [Lib.itoa_nonneg]
    go_enter Tryz.func41, Tryz.ntmps41
    go_wp2_with fail
    refine AU.out.mono ?_
    rintro e w2 ⟨v2, rfl, hown2, hb2, hk2⟩
    go_wp2
    go_ret
    exact ⟨v2, rfl, hown2, hb2, hk2⟩
theorem appInt_any (B n : Nat) (i : Int) (h0 : -9223372036854775808 ≤ i) (h1 : i ≤ 9223372036854775807) (sv : Value) (xs : List Value) (w : World) (hown : OwnG w B 5 sv n xs) (hBw : B ≤ w.heap.size) (hlim : n + 21 ≤ 140737488355328) (ht : TabB B w) :
    Calls Tryz.prog 26 #[sv, .int .i64 i, .int .i64 10] w fun e w' => ∃ v', e = .returned v' ∧ OwnG w' B 5 v' (n + (Lib.itoa i).length) (xs ++ Lib.byteCells (Lib.itoa i)) ∧ Below B w w' ∧ Lib.OthersKept 5 none w w' := by
  have C := Lib.hid (appInt_in B n i h0 h1 sv xs w hown hBw hlim ht)
  clear hown ht
  go_enter Tryz.func26, Tryz.ntmps26
  go_wp2_with fail
  refine C.out.mono ?_
  rintro e w1 ⟨v', rfl, q1, q2, q3⟩
  go_wp2
  go_ret
  exact ⟨v', rfl, q1, q2, q3⟩
end Go.Proofs.YtgldieboflmnhaaGreatDoor
