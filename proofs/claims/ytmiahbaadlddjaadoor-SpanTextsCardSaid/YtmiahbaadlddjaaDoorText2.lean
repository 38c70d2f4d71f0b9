/- Text of package span, above 0. -/
import Derived.Test.YtmiahbaadlddjaaDoorUnits
import Derived.Test.YtmiahbaadlddjaaDoorShelf
import Derived.RangeFuncBox
import Derived.Test.YtmiahbaadlddjaaDoorOps
import Derived.Test.YtmiahbaadlddjaaDoorRows
namespace Go.Proofs.YtmiahbaadlddjaaDoor
open Go Go.Proofs Go.RowKit Go.Shelf
set_option maxRecDepth 100000
attribute [local go_sem] Oper.semAt_some
def tStep (s : List UInt8 × Nat) (u : Fin 5) : List UInt8 × Nat := (if 0 < s.2 / unitSize u then s.1 ++ Lib.decDigits (s.2 / unitSize u) ++ unitWord u else s.1, s.2 % unitSize u)
def tRun (d : Nat) (pre : List (Fin 5)) : List UInt8 × Nat := pre.foldl tStep ([], d)
theorem tRun_snoc (d : Nat) (pre : List (Fin 5)) (x : Fin 5) : tRun d (pre ++ [x]) = (if 0 < (tRun d pre).2 / unitSize x then (tRun d pre).1 ++ Lib.decDigits ((tRun d pre).2 / unitSize x) ++ unitWord x else (tRun d pre).1, (tRun d pre).2 % unitSize x) := by
  unfold tRun; rw [List.foldl_append]; rfl
theorem tRun_le (d : Nat) (pre : List (Fin 5)) : (tRun d pre).2 ≤ d := by
  have h : ∀ (l : List (Fin 5)) (s : List UInt8 × Nat), (l.foldl tStep s).2 ≤ s.2 := by
    intro l
    induction l with
    | nil => intro s; exact Nat.le_refl _
    | cons u t ih => intro s; rw [List.foldl_cons]; exact Nat.le_trans (ih _) (Nat.mod_le _ _)
  exact h pre ([], d)
theorem unitSize_bd (x : Fin 5) : 1 ≤ unitSize x ∧ unitSize x ≤ 86400000 := by
  match x with
  | 0 => decide
  | 1 => decide
  | 2 => decide
  | 3 => decide
  | 4 => decide
theorem unitWord_len (x : Fin 5) : (unitWord x).length ≤ 2 := by
  match x with
  | 0 => decide
  | 1 => decide
  | 2 => decide
  | 3 => decide
  | 4 => decide
theorem tRun_len (d : Nat) (hd : d < 9223372036854775808) (pre : List (Fin 5)) : (tRun d pre).1.length ≤ 22 * pre.length := by
  have h : ∀ (l : List (Fin 5)) (s : List UInt8 × Nat), s.2 < 9223372036854775808 → (l.foldl tStep s).1.length ≤ s.1.length + 22 * l.length := by
    intro l
    induction l with
    | nil => intro s _; simp
    | cons u t ih =>
      intro s hs
      rw [List.foldl_cons]
      have hq : s.2 / unitSize u ≤ s.2 := Nat.div_le_self _ _
      have h1 := ih (tStep s u) (Nat.lt_of_le_of_lt (Nat.mod_le _ _) hs)
      have h2 : (tStep s u).1.length ≤ s.1.length + 22 := by
        unfold tStep
        dsimp only
        split
        · rw [List.length_append, List.length_append]
          have := decLen (s.2 / unitSize u) (by omega)
          have := unitWord_len u
          omega
        · omega
      rw [List.length_cons]
      omega
  have := h pre ([], d) hd
  simpa [tRun] using this
def Blk (W : World) (B : Nat) (cs : Array Value) (T : TypeId) : Prop := W.heap[B]? = some (.cells cs T (0, 0))
theorem blk_own {β : Type} (B : Nat) (T : TypeId) (cs : Array Value) : Own (fun (_ : β) W => Blk W B cs T) := fun s X Y row hs hg hrow =>
  (hg.block B (Array.getElem?_eq_some_iff.1 hs).1 (fun e' => by obtain ⟨o, ho, hc⟩ := hrow B e'.symm; rw [show X.heap[B]? = _ from hs] at ho; cases ho; cases hc)).trans hs
/-- the name of the library's table of powers of ten -/
def powName : String := (Rows.spanTwoRow.named[4]?).getD Rows.spanTwoRow.func
def Tab (w : World) : Prop := Lib.TabIs Tryd.prog w powName .u64 Lib.pow10Tab
theorem Tab.below {w w' : World} (h : Tab w) (hb : Below w.heap.size w w') : Tab w' := by
  unfold Tab Lib.TabIs World.var? at *
  cases hg : Tryd.prog.globalNamed powName with
  | none => simp [hg] at h
  | some g =>
    simp only [hg, Option.bind_some] at h ⊢
    have hlt : g < w.heap.size := by
      rcases Nat.lt_or_ge g w.heap.size with h' | h'
      · exact h'
      · rw [Array.getElem?_eq_none h'] at h; simp at h
    rw [hb.block g hlt]
    exact h
theorem appendUint_any (B n u : Nat) (hu64 : u < 18446744073709551616) (sv : Value) (xs : List Value) (w : World) (hown : w.ownsRow B 5 1 sv n xs) (hBw : B ≤ w.heap.size) (hlim : n + 20 ≤ 140737488355328) (htab : Tab w) :
    Calls Tryd.prog 31 #[sv, .int .u64 (u : Int), .int .i64 10] w fun e w' => ∃ v', e = .returned v' ∧ w'.ownsRow B 5 1 v' (n + (Lib.decDigits u).length) (xs ++ Lib.byteCells (Lib.decDigits u)) ∧ Below B w w' ∧ Lib.OthersKept 5 none w w' := by
  have C := Lib.hid (show Calls Tryd.prog 39 #[sv, .int .u64 (u : Int), .int .i64 10] w _ from Any.internal_strconv_AppendUint_10 Tryd.laysM288 B n u hu64 sv xs w hown hBw hlim htab)
  clear hown htab
  go_enter Tryd.func31, Tryd.ntmps31
  go_wp2_with fail
  refine C.out.mono ?_
  rintro e w1 ⟨v', rfl, h1, h2, h3⟩
  go_wp2
  go_ret
  exact ⟨v', rfl, h1, h2, h3⟩
theorem info_u8 : (Tryd.prog.info? 5).map (fun i => (i.zero, i.size, i.bytes)) = some (some (.int .u8 0), 1, 1) := by kernel_rfl
set_option maxHeartbeats 4000000 in
theorem text_pos (d : Nat) (h0 : 0 < d) (hd : d < 9223372036854775808) (w : World) (ht : Tab w) :
    Calls Tryd.prog 21 #[.int .i64 (d : Int)] w fun e w' => e = .returned (.string ⟨(tRun d [0, 1, 2, 3, 4]).1.toArray⟩) ∧ Below w.heap.size w w' := by
  refine (callsIn_wide (n := 9)).1 ?_
  refine callsIn_of_wp_marks Tryd.func21 rfl trivial ?_ rfl
  simp only [Tryd.ntmps21, List.size_toArray, List.length_cons, List.length_nil, Nat.reduceAdd, Nat.reduceSub, Array.replicate_succ, Array.replicate_zero, List.push_toArray, List.append_toArray, List.nil_append, List.cons_append]
  have g0 : ((d : Int) == 0) = false := by rw [beq_eq_false_iff_ne]; omega
  have g00 : ¬ d = 0 := by omega
  have g1 : ¬ (d : Int) < 0 := by omega
  have g2 : IntKind.u64.wrap (d : Int) = (d : Int) := by rw [IntKind.wrap_u64]; omega
  gi_wp2
  have hlp : Below w.heap.size w ((w.alloc (.cells #[.slice none 0 0] 56)).alloc (.cells #[.int .u64 (d : Int)] 48)) := by go_grown
  have bx3 : Boxed ((w.alloc (.cells #[.slice none 0 0] 56)).alloc (.cells #[.int .u64 (d : Int)] 48)) w.heap.size 56 (.slice none 0 0) := (Boxed.new w _ _).alloc _
  have bx4 : Boxed ((w.alloc (.cells #[.slice none 0 0] 56)).alloc (.cells #[.int .u64 (d : Int)] 48)) (w.heap.size + 1) 48 (.int .u64 (d : Int)) := by
    have h := Boxed.new (w.alloc (.cells #[.slice none 0 0] 56)) 48 (.int .u64 (d : Int)); rwa [World.size_alloc] at h
  have hsz : ((w.alloc (.cells #[.slice none 0 0] 56)).alloc (.cells #[.int .u64 (d : Int)] 48)).heap.size = w.heap.size + 2 := by simp
  generalize hW0 : (w.alloc (.cells #[.slice none 0 0] 56)).alloc (.cells #[.int .u64 (d : Int)] 48) = W0 at *
  clear hW0
  refine wpIn_rangeFunc_ownH (F := Fence.wide) (n := 9) rfl (by omega) (gf := 28) (lb := #[]) rfl trivial (enters_of Tryd.func28 (by kernel_rfl) rfl)
    (encs := fun x => #[unitV x]) (Kp := KeepsWalks) (units_stops Fence.wide (9 - 1) trivial rfl (by omega) W0) walksK_t walksK_b (Below.refl _ _) (fun _ => rfl)
    (fun pre W => (∃ v, Boxed W w.heap.size 56 v ∧ W.ownsRow (w.heap.size + 2) 5 1 v (tRun d pre).1.length (Lib.byteCells (tRun d pre).1) ∧ True) ∧ Boxed W (w.heap.size + 1) 48 (.int .u64 ((tRun d pre).2 : Int)) ∧ Below w.heap.size w W)
    (fun _ _ _ => False)
    (OwnFrom.and (Own.from (holdsRow_own (w.heap.size + 2) w.heap.size 56 5 1 (fun pre => (tRun d pre).1.length) (fun pre => Lib.byteCells (tRun d pre).1) (fun _ _ => True)) _) (OwnFrom.and (Own.from (boxed_own (w.heap.size + 1) 48 (fun pre => .int .u64 ((tRun d pre).2 : Int))) _) (ownFrom_below (Nat.le_refl _) (by rw [hsz]; omega))))
    (fun _ _ _ _ _ hs _ _ => hs)
    ⟨⟨_, bx3, World.ownsRow_nil _ _ _ _, trivial⟩, bx4, hlp⟩
    (fun x a' W => ∃ Bx, w.heap.size + 2 ≤ Bx ∧ Blk W Bx #[.string ⟨(unitWord x).toArray⟩, .int .u64 (unitSize x : Int), .int .u64 (unitMost x : Int)] 51 ∧ a' = { tmps := #[.int .i64 (d : Int), undef, .string ⟨#[]⟩, .pointer (some ⟨w.heap.size, 0, none⟩), .pointer (some ⟨w.heap.size + 1, 0, none⟩), .pointer (some ⟨Bx, 0, none⟩), undef, .int .i64 (d : Int), .bool false, .int .i64 (d : Int), .int .u64 (d : Int), .int .i64 (d : Int), .bool false, undef, undef, undef, undef, undef, unitV x, undef, undef, undef, undef, undef, undef, undef, undef, undef, undef, undef, undef, undef, undef, undef, undef, undef, undef], defers := [] })
    (fun x a' => ?ax) ?assign ?body ?done ?stop
  case ax => exact fun s X Y row ⟨Bx, q1, q2, q3⟩ hg hr => ⟨Bx, q1, (blk_own (β := Unit) Bx _ _).from _ () X Y row q2 hg hr, q3⟩
  case assign =>
    rintro l pre x W K ⟨⟨v, hv, hrow, _⟩, hleft, hB⟩ hK
    simp only [unitV]
    have hWs : w.heap.size + 2 ≤ W.heap.size := by have := hleft.lt; omega
    gi_wp2
    exact hK _ _ ((KeepsOthers.alloc _ _).from _) (KeepsWalks.alloc _ _) ⟨⟨v, hv.alloc _, hrow.alloc _, trivial⟩, hleft.alloc _, below_new hB _⟩ ⟨W.heap.size, hWs, heap_alloc_new W _, rfl⟩
  case body =>
    rintro l pre x a' W hl ⟨r, hr⟩ ⟨⟨v, hv, hrow, _⟩, hleft, hB⟩ ⟨Bx, hBx, bX, rfl⟩ hlen
    have hs := tRun_snoc d pre x
    have hle := tRun_le d pre
    have hSl : (tRun d pre).1.length ≤ 1000 := by have := tRun_len d hd pre; omega
    obtain ⟨zp, zm⟩ := unitSize_bd x
    have hws : (unitWord x).length ≤ 2 := unitWord_len x
    generalize hS : (tRun d pre).1 = S at *
    generalize hL : (tRun d pre).2 = L at *
    have SN := Lib.hid hs
    clear hs hS hL
    generalize unitSize x = z at *
    generalize unitWord x = wd at *
    generalize unitMost x = mo at *
    obtain ⟨Q, hQ⟩ : ∃ Q, L / z = Q := ⟨_, rfl⟩
    obtain ⟨R, hR⟩ : ∃ R, L % z = R := ⟨_, rfl⟩
    rw [hQ, hR] at SN
    have hQL : Q ≤ L := by rw [← hQ]; exact Nat.div_le_self _ _
    have hRL : R ≤ L := by rw [← hR]; exact Nat.mod_le _ _
    have e1 : (L : Int) / (z : Int) = (Q : Int) := by rw [← hQ, Int.natCast_ediv]
    have e2 : IntKind.u64.wrap (Q : Int) = (Q : Int) := by rw [IntKind.wrap_u64]; omega
    have e3 : (L : Int) % (z : Int) = (R : Int) := by rw [← hR, Int.natCast_emod]
    have e4 : ¬ (z : Int) = 0 := by omega
    have e5 : ((z : Int) == 0) = false := by rw [beq_eq_false_iff_ne]; exact e4
    have e6 : ¬ z = 0 := by omega
    have e7 : (z == 0) = false := by rw [beq_eq_false_iff_ne]; exact e6
    have c3 := hv.cell
    have c4 := hleft.cell
    have f3 := hv.frozen
    have f4 := hleft.frozen
    have cx0 : W.cell? ⟨Bx, 0, none⟩ = some (.string ⟨wd.toArray⟩) := by simp [World.cell?, show W.heap[Bx]? = _ from bX]
    have cx1 : W.cell? ⟨Bx, 1, none⟩ = some (.int .u64 (z : Int)) := by simp [World.cell?, show W.heap[Bx]? = _ from bX]
    clear hQ hR
    by_cases hQ0 : 0 < Q
    · have d1 : decide (0 < Q) = true := by simpa using hQ0
      obtain ⟨i0, hi, hz0, hz1, hz2⟩ := info_parts info_u8
      have HI := Lib.hid hi
      have HZ := Lib.hid hz0
      have HZ1 := Lib.hid hz1
      have HZ2 := Lib.hid hz2
      clear hi hz0 hz1 hz2
      have hszW : w.heap.size + 2 ≤ W.heap.size := by have := hleft.lt; omega
      have hmx : Tryd.prog.follows .mixedOrders = true := by kernel_rfl
      have AU := Lib.hid (fun (W1 : World) (hown : W1.ownsRow (w.heap.size + 2) 5 1 v S.length (Lib.byteCells S)) (hBw : w.heap.size + 2 ≤ W1.heap.size) (ht : Tab W1) => appendUint_any (w.heap.size + 2) S.length Q (by omega) v (Lib.byteCells S) W1 hown hBw (by omega) ht)
      gi_wp2
      refine wpIn_region_any hmx ?_
      change wpAnyIn _ _ _ _ _ _ _ _ _ (World.drew _)
      refine wpAnyIn_ready (rs := [0, 1, 3]) (by kernel_rfl) (by simp) ?_
      refine AllReadyIn.cons rfl (fun K hK => ?_) ?_
      · go_simp
        refine hK _ _ ?_
        clear hK K
        (try simp only [Act.put, List.setIfInBounds_toArray, List.set_cons_zero, List.set_cons_succ])
        refine wpAnyIn_ready (rs := [1, 3]) (by kernel_rfl) (by simp) ?_
        refine AllReadyIn.cons rfl (fun K hK => ?_) ?_
        · go_simp
          refine hK _ _ ?_
          clear hK K
          (try simp only [Act.put, List.setIfInBounds_toArray, List.set_cons_zero, List.set_cons_succ])
          refine wpAnyIn_ready (rs := [2, 3]) (by kernel_rfl) (by simp) ?_
          refine AllReadyIn.cons rfl (fun K hK => ?_) ?_
          · go_simp
            refine ⟨trivial, ?_⟩
            gi_at_call 31
            refine (CallsIn.inRound l (callsIn_wide.2 (AU.out W.drew hrow hszW (ht.below (Below.drew hB))))).mono ?_
            rintro e w1 ⟨v1, rfl, own1, bel1, kept1⟩
            (try go_simp)
            (try (refine hK _ _ ?_; clear hK K))
            (try simp only [Act.put, List.setIfInBounds_toArray, List.set_cons_zero, List.set_cons_succ])
            have hv1 := boxed_others kept1 (w := W.drew) hv (by decide)
            have hl1 := boxed_others kept1 (w := W.drew) hleft (by decide)
            have bx1 : Blk w1 Bx _ _ := kept1 Bx _ bX (by simp) (fun c fz e' => by simp at e')
            have cx0 : w1.cell? ⟨Bx, 0, none⟩ = some (.string ⟨wd.toArray⟩) := by simp [World.cell?, show w1.heap[Bx]? = _ from bx1]
            have cx1 : w1.cell? ⟨Bx, 1, none⟩ = some (.int .u64 (z : Int)) := by simp [World.cell?, show w1.heap[Bx]? = _ from bx1]
            obtain ⟨v2, w2, hrun, own2, grow2, -⟩ := Lib.run_append_own_string (P := Tryd.prog) w1 (w.heap.size + 2) 56 9 56 5 i0 Tryd.underlying56 Tryd.underlying9 HI.out HZ.out HZ1.out HZ2.out v1 _ _ own1 ⟨wd.toArray⟩ (by unfold maxLen; have := decLen Q (by omega); have e0 : (⟨wd.toArray⟩ : ByteArray).size = wd.length := rfl; omega) (by have := decLen Q (by omega); have e0 : (⟨wd.toArray⟩ : ByteArray).size = wd.length := rfl; omega) (by have := hl1.lt; omega)
            obtain ⟨g2, cap2, rfl⟩ := own_some own2 (by have := decPos Q; omega)
            have FX := fin_world (wd := wd) (by decide) (by decide) hB hv1 hl1 bel1 kept1 own1 own2 grow2
            have HV := Lib.hid FX
            clear FX
            have c2a := HV.out.b3.cell
            have f2a := HV.out.b3.frozen
            have c2b := HV.out.b4.cell
            have f2b := HV.out.b4.frozen
            have bx2 := heap_grow own1 grow2 (by decide) bx1
            have hBne : Bx ≠ w.heap.size := by omega
            have cx2 : (w2.setCell ⟨w.heap.size, 0, none⟩ (.slice (some ⟨g2, 0, none⟩) (S.length + (Lib.decDigits Q).length + wd.length) cap2)).cell? ⟨Bx, 1, none⟩ = some (.int .u64 (z : Int)) := by rw [show (World.setCell w2 _ _).cell? ⟨Bx, 1, none⟩ = w2.cell? ⟨Bx, 1, none⟩ from World.cell?_of_block (a := ⟨Bx, 1, none⟩) (Below.heap_setCell w2 _ _ Bx hBne)]; simp [World.cell?, show w2.heap[Bx]? = _ from bx2]
            clear own1 own2 grow2 bel1 kept1 hl1
            refine wpAnyIn_ready (rs := [3]) (by kernel_rfl) (by simp) ?_
            refine AllReadyIn.cons rfl (fun K hK => ?_) ?_
            · go_simp
              refine hK _ _ ?_
              clear hK K
              (try simp only [Act.put, List.setIfInBounds_toArray, List.set_cons_zero, List.set_cons_succ])
              refine wpAnyIn_ready (rs := [4]) (by kernel_rfl) (by simp) ?_
              refine AllReadyIn.cons rfl (fun K hK => ?_) ?_
              · go_simp
                refine hK _ _ ?_
                clear hK K
                (try simp only [Act.put, List.setIfInBounds_toArray, List.set_cons_zero, List.set_cons_succ])
                refine wpAnyIn_ready (rs := [5]) (by kernel_rfl) (by simp) ?_
                refine AllReadyIn.cons rfl (fun K hK => ?_) ?_
                · rw [if_pos (by rfl)]
                  refine oper_append_string (.tmp 27) (.tmp 29) 56 9 rfl rfl rfl hrun ?_
                  refine hK _ _ ?_
                  clear hK K
                  (try simp only [Act.put, List.setIfInBounds_toArray, List.set_cons_zero, List.set_cons_succ])
                  refine wpAnyIn_ready (rs := [6]) (by kernel_rfl) (by simp) ?_
                  refine AllReadyIn.cons rfl (fun K hK => ?_) ?_
                  · go_simp
                    refine hK _ _ ?_
                    clear hK K
                    (try simp only [Act.put, List.setIfInBounds_toArray, List.set_cons_zero, List.set_cons_succ])
                    refine wpAnyIn_done (by kernel_rfl) ?_ _
                    gi_wp2
                    refine ⟨?_, ?_, ?_⟩
                    · exact ((HV.out.ko.trans (KeepsOthers.setCell _ _ _)).trans (KeepsOthers.setCell _ _ _)).from _
                    · exact (HV.out.kw.trans (KeepsWalks.setCell _ _ _)).trans (KeepsWalks.setCell _ _ _)
                    · dsimp only
                      rw [SN.out, if_pos hQ0]
                      exact ⟨⟨_, (HV.out.b3.set _).other (by omega) _, ownsRow_setCell_below (ownsRow_setCell_below HV.out.own (by simp) _) (by simp) _, trivial⟩, (HV.out.b4.other (by omega) _).set _, (HV.out.bel.setCell (by simp) _).setCell (by simp) _⟩
                  exact AllReadyIn.nil
                exact AllReadyIn.nil
              exact AllReadyIn.nil
            exact AllReadyIn.nil
          refine AllReadyIn.cons rfl (fun K hK => ?_) ?_
          · go_simp
            refine hK _ _ ?_
            clear hK K
            (try simp only [Act.put, List.setIfInBounds_toArray, List.set_cons_zero, List.set_cons_succ])
            refine wpAnyIn_ready (rs := [2, 4]) (by kernel_rfl) (by simp) ?_
            refine AllReadyIn.cons rfl (fun K hK => ?_) ?_
            · go_simp
              refine ⟨trivial, ?_⟩
              gi_at_call 31
              refine (CallsIn.inRound l (callsIn_wide.2 (AU.out W.drew hrow hszW (ht.below (Below.drew hB))))).mono ?_
              rintro e w1 ⟨v1, rfl, own1, bel1, kept1⟩
              (try go_simp)
              (try (refine hK _ _ ?_; clear hK K))
              (try simp only [Act.put, List.setIfInBounds_toArray, List.set_cons_zero, List.set_cons_succ])
              have hv1 := boxed_others kept1 (w := W.drew) hv (by decide)
              have hl1 := boxed_others kept1 (w := W.drew) hleft (by decide)
              have bx1 : Blk w1 Bx _ _ := kept1 Bx _ bX (by simp) (fun c fz e' => by simp at e')
              have cx0 : w1.cell? ⟨Bx, 0, none⟩ = some (.string ⟨wd.toArray⟩) := by simp [World.cell?, show w1.heap[Bx]? = _ from bx1]
              have cx1 : w1.cell? ⟨Bx, 1, none⟩ = some (.int .u64 (z : Int)) := by simp [World.cell?, show w1.heap[Bx]? = _ from bx1]
              obtain ⟨v2, w2, hrun, own2, grow2, -⟩ := Lib.run_append_own_string (P := Tryd.prog) w1 (w.heap.size + 2) 56 9 56 5 i0 Tryd.underlying56 Tryd.underlying9 HI.out HZ.out HZ1.out HZ2.out v1 _ _ own1 ⟨wd.toArray⟩ (by unfold maxLen; have := decLen Q (by omega); have e0 : (⟨wd.toArray⟩ : ByteArray).size = wd.length := rfl; omega) (by have := decLen Q (by omega); have e0 : (⟨wd.toArray⟩ : ByteArray).size = wd.length := rfl; omega) (by have := hl1.lt; omega)
              obtain ⟨g2, cap2, rfl⟩ := own_some own2 (by have := decPos Q; omega)
              have FX := fin_world (wd := wd) (by decide) (by decide) hB hv1 hl1 bel1 kept1 own1 own2 grow2
              have HV := Lib.hid FX
              clear FX
              have c2a := HV.out.b3.cell
              have f2a := HV.out.b3.frozen
              have c2b := HV.out.b4.cell
              have f2b := HV.out.b4.frozen
              have bx2 := heap_grow own1 grow2 (by decide) bx1
              have hBne : Bx ≠ w.heap.size := by omega
              have cx2 : (w2.setCell ⟨w.heap.size, 0, none⟩ (.slice (some ⟨g2, 0, none⟩) (S.length + (Lib.decDigits Q).length + wd.length) cap2)).cell? ⟨Bx, 1, none⟩ = some (.int .u64 (z : Int)) := by rw [show (World.setCell w2 _ _).cell? ⟨Bx, 1, none⟩ = w2.cell? ⟨Bx, 1, none⟩ from World.cell?_of_block (a := ⟨Bx, 1, none⟩) (Below.heap_setCell w2 _ _ Bx hBne)]; simp [World.cell?, show w2.heap[Bx]? = _ from bx2]
              clear own1 own2 grow2 bel1 kept1 hl1
              refine wpAnyIn_ready (rs := [4]) (by kernel_rfl) (by simp) ?_
              refine AllReadyIn.cons rfl (fun K hK => ?_) ?_
              · go_simp
                refine hK _ _ ?_
                clear hK K
                (try simp only [Act.put, List.setIfInBounds_toArray, List.set_cons_zero, List.set_cons_succ])
                refine wpAnyIn_ready (rs := [5]) (by kernel_rfl) (by simp) ?_
                refine AllReadyIn.cons rfl (fun K hK => ?_) ?_
                · rw [if_pos (by rfl)]
                  refine oper_append_string (.tmp 27) (.tmp 29) 56 9 rfl rfl rfl hrun ?_
                  refine hK _ _ ?_
                  clear hK K
                  (try simp only [Act.put, List.setIfInBounds_toArray, List.set_cons_zero, List.set_cons_succ])
                  refine wpAnyIn_ready (rs := [6]) (by kernel_rfl) (by simp) ?_
                  refine AllReadyIn.cons rfl (fun K hK => ?_) ?_
                  · go_simp
                    refine hK _ _ ?_
                    clear hK K
                    (try simp only [Act.put, List.setIfInBounds_toArray, List.set_cons_zero, List.set_cons_succ])
                    refine wpAnyIn_done (by kernel_rfl) ?_ _
                    gi_wp2
                    refine ⟨?_, ?_, ?_⟩
                    · exact ((HV.out.ko.trans (KeepsOthers.setCell _ _ _)).trans (KeepsOthers.setCell _ _ _)).from _
                    · exact (HV.out.kw.trans (KeepsWalks.setCell _ _ _)).trans (KeepsWalks.setCell _ _ _)
                    · dsimp only
                      rw [SN.out, if_pos hQ0]
                      exact ⟨⟨_, (HV.out.b3.set _).other (by omega) _, ownsRow_setCell_below (ownsRow_setCell_below HV.out.own (by simp) _) (by simp) _, trivial⟩, (HV.out.b4.other (by omega) _).set _, (HV.out.bel.setCell (by simp) _).setCell (by simp) _⟩
                  exact AllReadyIn.nil
                exact AllReadyIn.nil
              exact AllReadyIn.nil
            refine AllReadyIn.cons rfl (fun K hK => ?_) ?_
            · go_simp
              refine hK _ _ ?_
              clear hK K
              (try simp only [Act.put, List.setIfInBounds_toArray, List.set_cons_zero, List.set_cons_succ])
              refine wpAnyIn_ready (rs := [2]) (by kernel_rfl) (by simp) ?_
              refine AllReadyIn.cons rfl (fun K hK => ?_) ?_
              · go_simp
                refine ⟨trivial, ?_⟩
                gi_at_call 31
                refine (CallsIn.inRound l (callsIn_wide.2 (AU.out W.drew hrow hszW (ht.below (Below.drew hB))))).mono ?_
                rintro e w1 ⟨v1, rfl, own1, bel1, kept1⟩
                (try go_simp)
                (try (refine hK _ _ ?_; clear hK K))
                (try simp only [Act.put, List.setIfInBounds_toArray, List.set_cons_zero, List.set_cons_succ])
                have hv1 := boxed_others kept1 (w := W.drew) hv (by decide)
                have hl1 := boxed_others kept1 (w := W.drew) hleft (by decide)
                have bx1 : Blk w1 Bx _ _ := kept1 Bx _ bX (by simp) (fun c fz e' => by simp at e')
                have cx0 : w1.cell? ⟨Bx, 0, none⟩ = some (.string ⟨wd.toArray⟩) := by simp [World.cell?, show w1.heap[Bx]? = _ from bx1]
                have cx1 : w1.cell? ⟨Bx, 1, none⟩ = some (.int .u64 (z : Int)) := by simp [World.cell?, show w1.heap[Bx]? = _ from bx1]
                obtain ⟨v2, w2, hrun, own2, grow2, -⟩ := Lib.run_append_own_string (P := Tryd.prog) w1 (w.heap.size + 2) 56 9 56 5 i0 Tryd.underlying56 Tryd.underlying9 HI.out HZ.out HZ1.out HZ2.out v1 _ _ own1 ⟨wd.toArray⟩ (by unfold maxLen; have := decLen Q (by omega); have e0 : (⟨wd.toArray⟩ : ByteArray).size = wd.length := rfl; omega) (by have := decLen Q (by omega); have e0 : (⟨wd.toArray⟩ : ByteArray).size = wd.length := rfl; omega) (by have := hl1.lt; omega)
                obtain ⟨g2, cap2, rfl⟩ := own_some own2 (by have := decPos Q; omega)
                have FX := fin_world (wd := wd) (by decide) (by decide) hB hv1 hl1 bel1 kept1 own1 own2 grow2
                have HV := Lib.hid FX
                clear FX
                have c2a := HV.out.b3.cell
                have f2a := HV.out.b3.frozen
                have c2b := HV.out.b4.cell
                have f2b := HV.out.b4.frozen
                have bx2 := heap_grow own1 grow2 (by decide) bx1
                have hBne : Bx ≠ w.heap.size := by omega
                have cx2 : (w2.setCell ⟨w.heap.size, 0, none⟩ (.slice (some ⟨g2, 0, none⟩) (S.length + (Lib.decDigits Q).length + wd.length) cap2)).cell? ⟨Bx, 1, none⟩ = some (.int .u64 (z : Int)) := by rw [show (World.setCell w2 _ _).cell? ⟨Bx, 1, none⟩ = w2.cell? ⟨Bx, 1, none⟩ from World.cell?_of_block (a := ⟨Bx, 1, none⟩) (Below.heap_setCell w2 _ _ Bx hBne)]; simp [World.cell?, show w2.heap[Bx]? = _ from bx2]
                clear own1 own2 grow2 bel1 kept1 hl1
                refine wpAnyIn_ready (rs := [5]) (by kernel_rfl) (by simp) ?_
                refine AllReadyIn.cons rfl (fun K hK => ?_) ?_
                · rw [if_pos (by rfl)]
                  refine oper_append_string (.tmp 27) (.tmp 29) 56 9 rfl rfl rfl hrun ?_
                  refine hK _ _ ?_
                  clear hK K
                  (try simp only [Act.put, List.setIfInBounds_toArray, List.set_cons_zero, List.set_cons_succ])
                  refine wpAnyIn_ready (rs := [6]) (by kernel_rfl) (by simp) ?_
                  refine AllReadyIn.cons rfl (fun K hK => ?_) ?_
                  · go_simp
                    refine hK _ _ ?_
                    clear hK K
                    (try simp only [Act.put, List.setIfInBounds_toArray, List.set_cons_zero, List.set_cons_succ])
                    refine wpAnyIn_done (by kernel_rfl) ?_ _
                    gi_wp2
                    refine ⟨?_, ?_, ?_⟩
                    · exact ((HV.out.ko.trans (KeepsOthers.setCell _ _ _)).trans (KeepsOthers.setCell _ _ _)).from _
                    · exact (HV.out.kw.trans (KeepsWalks.setCell _ _ _)).trans (KeepsWalks.setCell _ _ _)
                    · dsimp only
                      rw [SN.out, if_pos hQ0]
                      exact ⟨⟨_, (HV.out.b3.set _).other (by omega) _, ownsRow_setCell_below (ownsRow_setCell_below HV.out.own (by simp) _) (by simp) _, trivial⟩, (HV.out.b4.other (by omega) _).set _, (HV.out.bel.setCell (by simp) _).setCell (by simp) _⟩
                  exact AllReadyIn.nil
                exact AllReadyIn.nil
              exact AllReadyIn.nil
            exact AllReadyIn.nil
          exact AllReadyIn.nil
        refine AllReadyIn.cons rfl (fun K hK => ?_) ?_
        · go_simp
          refine hK _ _ ?_
          clear hK K
          (try simp only [Act.put, List.setIfInBounds_toArray, List.set_cons_zero, List.set_cons_succ])
          refine wpAnyIn_ready (rs := [1, 4]) (by kernel_rfl) (by simp) ?_
          refine AllReadyIn.cons rfl (fun K hK => ?_) ?_
          · go_simp
            refine hK _ _ ?_
            clear hK K
            (try simp only [Act.put, List.setIfInBounds_toArray, List.set_cons_zero, List.set_cons_succ])
            refine wpAnyIn_ready (rs := [2, 4]) (by kernel_rfl) (by simp) ?_
            refine AllReadyIn.cons rfl (fun K hK => ?_) ?_
            · go_simp
              refine ⟨trivial, ?_⟩
              gi_at_call 31
              refine (CallsIn.inRound l (callsIn_wide.2 (AU.out W.drew hrow hszW (ht.below (Below.drew hB))))).mono ?_
              rintro e w1 ⟨v1, rfl, own1, bel1, kept1⟩
              (try go_simp)
              (try (refine hK _ _ ?_; clear hK K))
              (try simp only [Act.put, List.setIfInBounds_toArray, List.set_cons_zero, List.set_cons_succ])
              have hv1 := boxed_others kept1 (w := W.drew) hv (by decide)
              have hl1 := boxed_others kept1 (w := W.drew) hleft (by decide)
              have bx1 : Blk w1 Bx _ _ := kept1 Bx _ bX (by simp) (fun c fz e' => by simp at e')
              have cx0 : w1.cell? ⟨Bx, 0, none⟩ = some (.string ⟨wd.toArray⟩) := by simp [World.cell?, show w1.heap[Bx]? = _ from bx1]
              have cx1 : w1.cell? ⟨Bx, 1, none⟩ = some (.int .u64 (z : Int)) := by simp [World.cell?, show w1.heap[Bx]? = _ from bx1]
              obtain ⟨v2, w2, hrun, own2, grow2, -⟩ := Lib.run_append_own_string (P := Tryd.prog) w1 (w.heap.size + 2) 56 9 56 5 i0 Tryd.underlying56 Tryd.underlying9 HI.out HZ.out HZ1.out HZ2.out v1 _ _ own1 ⟨wd.toArray⟩ (by unfold maxLen; have := decLen Q (by omega); have e0 : (⟨wd.toArray⟩ : ByteArray).size = wd.length := rfl; omega) (by have := decLen Q (by omega); have e0 : (⟨wd.toArray⟩ : ByteArray).size = wd.length := rfl; omega) (by have := hl1.lt; omega)
              obtain ⟨g2, cap2, rfl⟩ := own_some own2 (by have := decPos Q; omega)
              have FX := fin_world (wd := wd) (by decide) (by decide) hB hv1 hl1 bel1 kept1 own1 own2 grow2
              have HV := Lib.hid FX
              clear FX
              have c2a := HV.out.b3.cell
              have f2a := HV.out.b3.frozen
              have c2b := HV.out.b4.cell
              have f2b := HV.out.b4.frozen
              have bx2 := heap_grow own1 grow2 (by decide) bx1
              have hBne : Bx ≠ w.heap.size := by omega
              have cx2 : (w2.setCell ⟨w.heap.size, 0, none⟩ (.slice (some ⟨g2, 0, none⟩) (S.length + (Lib.decDigits Q).length + wd.length) cap2)).cell? ⟨Bx, 1, none⟩ = some (.int .u64 (z : Int)) := by rw [show (World.setCell w2 _ _).cell? ⟨Bx, 1, none⟩ = w2.cell? ⟨Bx, 1, none⟩ from World.cell?_of_block (a := ⟨Bx, 1, none⟩) (Below.heap_setCell w2 _ _ Bx hBne)]; simp [World.cell?, show w2.heap[Bx]? = _ from bx2]
              clear own1 own2 grow2 bel1 kept1 hl1
              refine wpAnyIn_ready (rs := [4]) (by kernel_rfl) (by simp) ?_
              refine AllReadyIn.cons rfl (fun K hK => ?_) ?_
              · go_simp
                refine hK _ _ ?_
                clear hK K
                (try simp only [Act.put, List.setIfInBounds_toArray, List.set_cons_zero, List.set_cons_succ])
                refine wpAnyIn_ready (rs := [5]) (by kernel_rfl) (by simp) ?_
                refine AllReadyIn.cons rfl (fun K hK => ?_) ?_
                · rw [if_pos (by rfl)]
                  refine oper_append_string (.tmp 27) (.tmp 29) 56 9 rfl rfl rfl hrun ?_
                  refine hK _ _ ?_
                  clear hK K
                  (try simp only [Act.put, List.setIfInBounds_toArray, List.set_cons_zero, List.set_cons_succ])
                  refine wpAnyIn_ready (rs := [6]) (by kernel_rfl) (by simp) ?_
                  refine AllReadyIn.cons rfl (fun K hK => ?_) ?_
                  · go_simp
                    refine hK _ _ ?_
                    clear hK K
                    (try simp only [Act.put, List.setIfInBounds_toArray, List.set_cons_zero, List.set_cons_succ])
                    refine wpAnyIn_done (by kernel_rfl) ?_ _
                    gi_wp2
                    refine ⟨?_, ?_, ?_⟩
                    · exact ((HV.out.ko.trans (KeepsOthers.setCell _ _ _)).trans (KeepsOthers.setCell _ _ _)).from _
                    · exact (HV.out.kw.trans (KeepsWalks.setCell _ _ _)).trans (KeepsWalks.setCell _ _ _)
                    · dsimp only
                      rw [SN.out, if_pos hQ0]
                      exact ⟨⟨_, (HV.out.b3.set _).other (by omega) _, ownsRow_setCell_below (ownsRow_setCell_below HV.out.own (by simp) _) (by simp) _, trivial⟩, (HV.out.b4.other (by omega) _).set _, (HV.out.bel.setCell (by simp) _).setCell (by simp) _⟩
                  exact AllReadyIn.nil
                exact AllReadyIn.nil
              exact AllReadyIn.nil
            refine AllReadyIn.cons rfl (fun K hK => ?_) ?_
            · go_simp
              refine hK _ _ ?_
              clear hK K
              (try simp only [Act.put, List.setIfInBounds_toArray, List.set_cons_zero, List.set_cons_succ])
              refine wpAnyIn_ready (rs := [2]) (by kernel_rfl) (by simp) ?_
              refine AllReadyIn.cons rfl (fun K hK => ?_) ?_
              · go_simp
                refine ⟨trivial, ?_⟩
                gi_at_call 31
                refine (CallsIn.inRound l (callsIn_wide.2 (AU.out W.drew hrow hszW (ht.below (Below.drew hB))))).mono ?_
                rintro e w1 ⟨v1, rfl, own1, bel1, kept1⟩
                (try go_simp)
                (try (refine hK _ _ ?_; clear hK K))
                (try simp only [Act.put, List.setIfInBounds_toArray, List.set_cons_zero, List.set_cons_succ])
                have hv1 := boxed_others kept1 (w := W.drew) hv (by decide)
                have hl1 := boxed_others kept1 (w := W.drew) hleft (by decide)
                have bx1 : Blk w1 Bx _ _ := kept1 Bx _ bX (by simp) (fun c fz e' => by simp at e')
                have cx0 : w1.cell? ⟨Bx, 0, none⟩ = some (.string ⟨wd.toArray⟩) := by simp [World.cell?, show w1.heap[Bx]? = _ from bx1]
                have cx1 : w1.cell? ⟨Bx, 1, none⟩ = some (.int .u64 (z : Int)) := by simp [World.cell?, show w1.heap[Bx]? = _ from bx1]
                obtain ⟨v2, w2, hrun, own2, grow2, -⟩ := Lib.run_append_own_string (P := Tryd.prog) w1 (w.heap.size + 2) 56 9 56 5 i0 Tryd.underlying56 Tryd.underlying9 HI.out HZ.out HZ1.out HZ2.out v1 _ _ own1 ⟨wd.toArray⟩ (by unfold maxLen; have := decLen Q (by omega); have e0 : (⟨wd.toArray⟩ : ByteArray).size = wd.length := rfl; omega) (by have := decLen Q (by omega); have e0 : (⟨wd.toArray⟩ : ByteArray).size = wd.length := rfl; omega) (by have := hl1.lt; omega)
                obtain ⟨g2, cap2, rfl⟩ := own_some own2 (by have := decPos Q; omega)
                have FX := fin_world (wd := wd) (by decide) (by decide) hB hv1 hl1 bel1 kept1 own1 own2 grow2
                have HV := Lib.hid FX
                clear FX
                have c2a := HV.out.b3.cell
                have f2a := HV.out.b3.frozen
                have c2b := HV.out.b4.cell
                have f2b := HV.out.b4.frozen
                have bx2 := heap_grow own1 grow2 (by decide) bx1
                have hBne : Bx ≠ w.heap.size := by omega
                have cx2 : (w2.setCell ⟨w.heap.size, 0, none⟩ (.slice (some ⟨g2, 0, none⟩) (S.length + (Lib.decDigits Q).length + wd.length) cap2)).cell? ⟨Bx, 1, none⟩ = some (.int .u64 (z : Int)) := by rw [show (World.setCell w2 _ _).cell? ⟨Bx, 1, none⟩ = w2.cell? ⟨Bx, 1, none⟩ from World.cell?_of_block (a := ⟨Bx, 1, none⟩) (Below.heap_setCell w2 _ _ Bx hBne)]; simp [World.cell?, show w2.heap[Bx]? = _ from bx2]
                clear own1 own2 grow2 bel1 kept1 hl1
                refine wpAnyIn_ready (rs := [5]) (by kernel_rfl) (by simp) ?_
                refine AllReadyIn.cons rfl (fun K hK => ?_) ?_
                · rw [if_pos (by rfl)]
                  refine oper_append_string (.tmp 27) (.tmp 29) 56 9 rfl rfl rfl hrun ?_
                  refine hK _ _ ?_
                  clear hK K
                  (try simp only [Act.put, List.setIfInBounds_toArray, List.set_cons_zero, List.set_cons_succ])
                  refine wpAnyIn_ready (rs := [6]) (by kernel_rfl) (by simp) ?_
                  refine AllReadyIn.cons rfl (fun K hK => ?_) ?_
                  · go_simp
                    refine hK _ _ ?_
                    clear hK K
                    (try simp only [Act.put, List.setIfInBounds_toArray, List.set_cons_zero, List.set_cons_succ])
                    refine wpAnyIn_done (by kernel_rfl) ?_ _
                    gi_wp2
                    refine ⟨?_, ?_, ?_⟩
                    · exact ((HV.out.ko.trans (KeepsOthers.setCell _ _ _)).trans (KeepsOthers.setCell _ _ _)).from _
                    · exact (HV.out.kw.trans (KeepsWalks.setCell _ _ _)).trans (KeepsWalks.setCell _ _ _)
                    · dsimp only
                      rw [SN.out, if_pos hQ0]
                      exact ⟨⟨_, (HV.out.b3.set _).other (by omega) _, ownsRow_setCell_below (ownsRow_setCell_below HV.out.own (by simp) _) (by simp) _, trivial⟩, (HV.out.b4.other (by omega) _).set _, (HV.out.bel.setCell (by simp) _).setCell (by simp) _⟩
                  exact AllReadyIn.nil
                exact AllReadyIn.nil
              exact AllReadyIn.nil
            exact AllReadyIn.nil
          refine AllReadyIn.cons rfl (fun K hK => ?_) ?_
          · go_simp
            refine hK _ _ ?_
            clear hK K
            (try simp only [Act.put, List.setIfInBounds_toArray, List.set_cons_zero, List.set_cons_succ])
            refine wpAnyIn_ready (rs := [1]) (by kernel_rfl) (by simp) ?_
            refine AllReadyIn.cons rfl (fun K hK => ?_) ?_
            · go_simp
              refine hK _ _ ?_
              clear hK K
              (try simp only [Act.put, List.setIfInBounds_toArray, List.set_cons_zero, List.set_cons_succ])
              refine wpAnyIn_ready (rs := [2]) (by kernel_rfl) (by simp) ?_
              refine AllReadyIn.cons rfl (fun K hK => ?_) ?_
              · go_simp
                refine ⟨trivial, ?_⟩
                gi_at_call 31
                refine (CallsIn.inRound l (callsIn_wide.2 (AU.out W.drew hrow hszW (ht.below (Below.drew hB))))).mono ?_
                rintro e w1 ⟨v1, rfl, own1, bel1, kept1⟩
                (try go_simp)
                (try (refine hK _ _ ?_; clear hK K))
                (try simp only [Act.put, List.setIfInBounds_toArray, List.set_cons_zero, List.set_cons_succ])
                have hv1 := boxed_others kept1 (w := W.drew) hv (by decide)
                have hl1 := boxed_others kept1 (w := W.drew) hleft (by decide)
                have bx1 : Blk w1 Bx _ _ := kept1 Bx _ bX (by simp) (fun c fz e' => by simp at e')
                have cx0 : w1.cell? ⟨Bx, 0, none⟩ = some (.string ⟨wd.toArray⟩) := by simp [World.cell?, show w1.heap[Bx]? = _ from bx1]
                have cx1 : w1.cell? ⟨Bx, 1, none⟩ = some (.int .u64 (z : Int)) := by simp [World.cell?, show w1.heap[Bx]? = _ from bx1]
                obtain ⟨v2, w2, hrun, own2, grow2, -⟩ := Lib.run_append_own_string (P := Tryd.prog) w1 (w.heap.size + 2) 56 9 56 5 i0 Tryd.underlying56 Tryd.underlying9 HI.out HZ.out HZ1.out HZ2.out v1 _ _ own1 ⟨wd.toArray⟩ (by unfold maxLen; have := decLen Q (by omega); have e0 : (⟨wd.toArray⟩ : ByteArray).size = wd.length := rfl; omega) (by have := decLen Q (by omega); have e0 : (⟨wd.toArray⟩ : ByteArray).size = wd.length := rfl; omega) (by have := hl1.lt; omega)
                obtain ⟨g2, cap2, rfl⟩ := own_some own2 (by have := decPos Q; omega)
                have FX := fin_world (wd := wd) (by decide) (by decide) hB hv1 hl1 bel1 kept1 own1 own2 grow2
                have HV := Lib.hid FX
                clear FX
                have c2a := HV.out.b3.cell
                have f2a := HV.out.b3.frozen
                have c2b := HV.out.b4.cell
                have f2b := HV.out.b4.frozen
                have bx2 := heap_grow own1 grow2 (by decide) bx1
                have hBne : Bx ≠ w.heap.size := by omega
                have cx2 : (w2.setCell ⟨w.heap.size, 0, none⟩ (.slice (some ⟨g2, 0, none⟩) (S.length + (Lib.decDigits Q).length + wd.length) cap2)).cell? ⟨Bx, 1, none⟩ = some (.int .u64 (z : Int)) := by rw [show (World.setCell w2 _ _).cell? ⟨Bx, 1, none⟩ = w2.cell? ⟨Bx, 1, none⟩ from World.cell?_of_block (a := ⟨Bx, 1, none⟩) (Below.heap_setCell w2 _ _ Bx hBne)]; simp [World.cell?, show w2.heap[Bx]? = _ from bx2]
                clear own1 own2 grow2 bel1 kept1 hl1
                refine wpAnyIn_ready (rs := [5]) (by kernel_rfl) (by simp) ?_
                refine AllReadyIn.cons rfl (fun K hK => ?_) ?_
                · rw [if_pos (by rfl)]
                  refine oper_append_string (.tmp 27) (.tmp 29) 56 9 rfl rfl rfl hrun ?_
                  refine hK _ _ ?_
                  clear hK K
                  (try simp only [Act.put, List.setIfInBounds_toArray, List.set_cons_zero, List.set_cons_succ])
                  refine wpAnyIn_ready (rs := [6]) (by kernel_rfl) (by simp) ?_
                  refine AllReadyIn.cons rfl (fun K hK => ?_) ?_
                  · go_simp
                    refine hK _ _ ?_
                    clear hK K
                    (try simp only [Act.put, List.setIfInBounds_toArray, List.set_cons_zero, List.set_cons_succ])
                    refine wpAnyIn_done (by kernel_rfl) ?_ _
                    gi_wp2
                    refine ⟨?_, ?_, ?_⟩
                    · exact ((HV.out.ko.trans (KeepsOthers.setCell _ _ _)).trans (KeepsOthers.setCell _ _ _)).from _
                    · exact (HV.out.kw.trans (KeepsWalks.setCell _ _ _)).trans (KeepsWalks.setCell _ _ _)
                    · dsimp only
                      rw [SN.out, if_pos hQ0]
                      exact ⟨⟨_, (HV.out.b3.set _).other (by omega) _, ownsRow_setCell_below (ownsRow_setCell_below HV.out.own (by simp) _) (by simp) _, trivial⟩, (HV.out.b4.other (by omega) _).set _, (HV.out.bel.setCell (by simp) _).setCell (by simp) _⟩
                  exact AllReadyIn.nil
                exact AllReadyIn.nil
              exact AllReadyIn.nil
            exact AllReadyIn.nil
          exact AllReadyIn.nil
        exact AllReadyIn.nil
      refine AllReadyIn.cons rfl (fun K hK => ?_) ?_
      · go_simp
        refine hK _ _ ?_
        clear hK K
        (try simp only [Act.put, List.setIfInBounds_toArray, List.set_cons_zero, List.set_cons_succ])
        refine wpAnyIn_ready (rs := [0, 3]) (by kernel_rfl) (by simp) ?_
        refine AllReadyIn.cons rfl (fun K hK => ?_) ?_
        · go_simp
          refine hK _ _ ?_
          clear hK K
          (try simp only [Act.put, List.setIfInBounds_toArray, List.set_cons_zero, List.set_cons_succ])
          refine wpAnyIn_ready (rs := [2, 3]) (by kernel_rfl) (by simp) ?_
          refine AllReadyIn.cons rfl (fun K hK => ?_) ?_
          · go_simp
            refine ⟨trivial, ?_⟩
            gi_at_call 31
            refine (CallsIn.inRound l (callsIn_wide.2 (AU.out W.drew hrow hszW (ht.below (Below.drew hB))))).mono ?_
            rintro e w1 ⟨v1, rfl, own1, bel1, kept1⟩
            (try go_simp)
            (try (refine hK _ _ ?_; clear hK K))
            (try simp only [Act.put, List.setIfInBounds_toArray, List.set_cons_zero, List.set_cons_succ])
            have hv1 := boxed_others kept1 (w := W.drew) hv (by decide)
            have hl1 := boxed_others kept1 (w := W.drew) hleft (by decide)
            have bx1 : Blk w1 Bx _ _ := kept1 Bx _ bX (by simp) (fun c fz e' => by simp at e')
            have cx0 : w1.cell? ⟨Bx, 0, none⟩ = some (.string ⟨wd.toArray⟩) := by simp [World.cell?, show w1.heap[Bx]? = _ from bx1]
            have cx1 : w1.cell? ⟨Bx, 1, none⟩ = some (.int .u64 (z : Int)) := by simp [World.cell?, show w1.heap[Bx]? = _ from bx1]
            obtain ⟨v2, w2, hrun, own2, grow2, -⟩ := Lib.run_append_own_string (P := Tryd.prog) w1 (w.heap.size + 2) 56 9 56 5 i0 Tryd.underlying56 Tryd.underlying9 HI.out HZ.out HZ1.out HZ2.out v1 _ _ own1 ⟨wd.toArray⟩ (by unfold maxLen; have := decLen Q (by omega); have e0 : (⟨wd.toArray⟩ : ByteArray).size = wd.length := rfl; omega) (by have := decLen Q (by omega); have e0 : (⟨wd.toArray⟩ : ByteArray).size = wd.length := rfl; omega) (by have := hl1.lt; omega)
            obtain ⟨g2, cap2, rfl⟩ := own_some own2 (by have := decPos Q; omega)
            have FX := fin_world (wd := wd) (by decide) (by decide) hB hv1 hl1 bel1 kept1 own1 own2 grow2
            have HV := Lib.hid FX
            clear FX
            have c2a := HV.out.b3.cell
            have f2a := HV.out.b3.frozen
            have c2b := HV.out.b4.cell
            have f2b := HV.out.b4.frozen
            have bx2 := heap_grow own1 grow2 (by decide) bx1
            have hBne : Bx ≠ w.heap.size := by omega
            have cx2 : (w2.setCell ⟨w.heap.size, 0, none⟩ (.slice (some ⟨g2, 0, none⟩) (S.length + (Lib.decDigits Q).length + wd.length) cap2)).cell? ⟨Bx, 1, none⟩ = some (.int .u64 (z : Int)) := by rw [show (World.setCell w2 _ _).cell? ⟨Bx, 1, none⟩ = w2.cell? ⟨Bx, 1, none⟩ from World.cell?_of_block (a := ⟨Bx, 1, none⟩) (Below.heap_setCell w2 _ _ Bx hBne)]; simp [World.cell?, show w2.heap[Bx]? = _ from bx2]
            clear own1 own2 grow2 bel1 kept1 hl1
            refine wpAnyIn_ready (rs := [3]) (by kernel_rfl) (by simp) ?_
            refine AllReadyIn.cons rfl (fun K hK => ?_) ?_
            · go_simp
              refine hK _ _ ?_
              clear hK K
              (try simp only [Act.put, List.setIfInBounds_toArray, List.set_cons_zero, List.set_cons_succ])
              refine wpAnyIn_ready (rs := [4]) (by kernel_rfl) (by simp) ?_
              refine AllReadyIn.cons rfl (fun K hK => ?_) ?_
              · go_simp
                refine hK _ _ ?_
                clear hK K
                (try simp only [Act.put, List.setIfInBounds_toArray, List.set_cons_zero, List.set_cons_succ])
                refine wpAnyIn_ready (rs := [5]) (by kernel_rfl) (by simp) ?_
                refine AllReadyIn.cons rfl (fun K hK => ?_) ?_
                · rw [if_pos (by rfl)]
                  refine oper_append_string (.tmp 27) (.tmp 29) 56 9 rfl rfl rfl hrun ?_
                  refine hK _ _ ?_
                  clear hK K
                  (try simp only [Act.put, List.setIfInBounds_toArray, List.set_cons_zero, List.set_cons_succ])
                  refine wpAnyIn_ready (rs := [6]) (by kernel_rfl) (by simp) ?_
                  refine AllReadyIn.cons rfl (fun K hK => ?_) ?_
                  · go_simp
                    refine hK _ _ ?_
                    clear hK K
                    (try simp only [Act.put, List.setIfInBounds_toArray, List.set_cons_zero, List.set_cons_succ])
                    refine wpAnyIn_done (by kernel_rfl) ?_ _
                    gi_wp2
                    refine ⟨?_, ?_, ?_⟩
                    · exact ((HV.out.ko.trans (KeepsOthers.setCell _ _ _)).trans (KeepsOthers.setCell _ _ _)).from _
                    · exact (HV.out.kw.trans (KeepsWalks.setCell _ _ _)).trans (KeepsWalks.setCell _ _ _)
                    · dsimp only
                      rw [SN.out, if_pos hQ0]
                      exact ⟨⟨_, (HV.out.b3.set _).other (by omega) _, ownsRow_setCell_below (ownsRow_setCell_below HV.out.own (by simp) _) (by simp) _, trivial⟩, (HV.out.b4.other (by omega) _).set _, (HV.out.bel.setCell (by simp) _).setCell (by simp) _⟩
                  exact AllReadyIn.nil
                exact AllReadyIn.nil
              exact AllReadyIn.nil
            exact AllReadyIn.nil
          refine AllReadyIn.cons rfl (fun K hK => ?_) ?_
          · go_simp
            refine hK _ _ ?_
            clear hK K
            (try simp only [Act.put, List.setIfInBounds_toArray, List.set_cons_zero, List.set_cons_succ])
            refine wpAnyIn_ready (rs := [2, 4]) (by kernel_rfl) (by simp) ?_
            refine AllReadyIn.cons rfl (fun K hK => ?_) ?_
            · go_simp
              refine ⟨trivial, ?_⟩
              gi_at_call 31
              refine (CallsIn.inRound l (callsIn_wide.2 (AU.out W.drew hrow hszW (ht.below (Below.drew hB))))).mono ?_
              rintro e w1 ⟨v1, rfl, own1, bel1, kept1⟩
              (try go_simp)
              (try (refine hK _ _ ?_; clear hK K))
              (try simp only [Act.put, List.setIfInBounds_toArray, List.set_cons_zero, List.set_cons_succ])
              have hv1 := boxed_others kept1 (w := W.drew) hv (by decide)
              have hl1 := boxed_others kept1 (w := W.drew) hleft (by decide)
              have bx1 : Blk w1 Bx _ _ := kept1 Bx _ bX (by simp) (fun c fz e' => by simp at e')
              have cx0 : w1.cell? ⟨Bx, 0, none⟩ = some (.string ⟨wd.toArray⟩) := by simp [World.cell?, show w1.heap[Bx]? = _ from bx1]
              have cx1 : w1.cell? ⟨Bx, 1, none⟩ = some (.int .u64 (z : Int)) := by simp [World.cell?, show w1.heap[Bx]? = _ from bx1]
              obtain ⟨v2, w2, hrun, own2, grow2, -⟩ := Lib.run_append_own_string (P := Tryd.prog) w1 (w.heap.size + 2) 56 9 56 5 i0 Tryd.underlying56 Tryd.underlying9 HI.out HZ.out HZ1.out HZ2.out v1 _ _ own1 ⟨wd.toArray⟩ (by unfold maxLen; have := decLen Q (by omega); have e0 : (⟨wd.toArray⟩ : ByteArray).size = wd.length := rfl; omega) (by have := decLen Q (by omega); have e0 : (⟨wd.toArray⟩ : ByteArray).size = wd.length := rfl; omega) (by have := hl1.lt; omega)
              obtain ⟨g2, cap2, rfl⟩ := own_some own2 (by have := decPos Q; omega)
              have FX := fin_world (wd := wd) (by decide) (by decide) hB hv1 hl1 bel1 kept1 own1 own2 grow2
              have HV := Lib.hid FX
              clear FX
              have c2a := HV.out.b3.cell
              have f2a := HV.out.b3.frozen
              have c2b := HV.out.b4.cell
              have f2b := HV.out.b4.frozen
              have bx2 := heap_grow own1 grow2 (by decide) bx1
              have hBne : Bx ≠ w.heap.size := by omega
              have cx2 : (w2.setCell ⟨w.heap.size, 0, none⟩ (.slice (some ⟨g2, 0, none⟩) (S.length + (Lib.decDigits Q).length + wd.length) cap2)).cell? ⟨Bx, 1, none⟩ = some (.int .u64 (z : Int)) := by rw [show (World.setCell w2 _ _).cell? ⟨Bx, 1, none⟩ = w2.cell? ⟨Bx, 1, none⟩ from World.cell?_of_block (a := ⟨Bx, 1, none⟩) (Below.heap_setCell w2 _ _ Bx hBne)]; simp [World.cell?, show w2.heap[Bx]? = _ from bx2]
              clear own1 own2 grow2 bel1 kept1 hl1
              refine wpAnyIn_ready (rs := [4]) (by kernel_rfl) (by simp) ?_
              refine AllReadyIn.cons rfl (fun K hK => ?_) ?_
              · go_simp
                refine hK _ _ ?_
                clear hK K
                (try simp only [Act.put, List.setIfInBounds_toArray, List.set_cons_zero, List.set_cons_succ])
                refine wpAnyIn_ready (rs := [5]) (by kernel_rfl) (by simp) ?_
                refine AllReadyIn.cons rfl (fun K hK => ?_) ?_
                · rw [if_pos (by rfl)]
                  refine oper_append_string (.tmp 27) (.tmp 29) 56 9 rfl rfl rfl hrun ?_
                  refine hK _ _ ?_
                  clear hK K
                  (try simp only [Act.put, List.setIfInBounds_toArray, List.set_cons_zero, List.set_cons_succ])
                  refine wpAnyIn_ready (rs := [6]) (by kernel_rfl) (by simp) ?_
                  refine AllReadyIn.cons rfl (fun K hK => ?_) ?_
                  · go_simp
                    refine hK _ _ ?_
                    clear hK K
                    (try simp only [Act.put, List.setIfInBounds_toArray, List.set_cons_zero, List.set_cons_succ])
                    refine wpAnyIn_done (by kernel_rfl) ?_ _
                    gi_wp2
                    refine ⟨?_, ?_, ?_⟩
                    · exact ((HV.out.ko.trans (KeepsOthers.setCell _ _ _)).trans (KeepsOthers.setCell _ _ _)).from _
                    · exact (HV.out.kw.trans (KeepsWalks.setCell _ _ _)).trans (KeepsWalks.setCell _ _ _)
                    · dsimp only
                      rw [SN.out, if_pos hQ0]
                      exact ⟨⟨_, (HV.out.b3.set _).other (by omega) _, ownsRow_setCell_below (ownsRow_setCell_below HV.out.own (by simp) _) (by simp) _, trivial⟩, (HV.out.b4.other (by omega) _).set _, (HV.out.bel.setCell (by simp) _).setCell (by simp) _⟩
                  exact AllReadyIn.nil
                exact AllReadyIn.nil
              exact AllReadyIn.nil
            refine AllReadyIn.cons rfl (fun K hK => ?_) ?_
            · go_simp
              refine hK _ _ ?_
              clear hK K
              (try simp only [Act.put, List.setIfInBounds_toArray, List.set_cons_zero, List.set_cons_succ])
              refine wpAnyIn_ready (rs := [2]) (by kernel_rfl) (by simp) ?_
              refine AllReadyIn.cons rfl (fun K hK => ?_) ?_
              · go_simp
                refine ⟨trivial, ?_⟩
                gi_at_call 31
                refine (CallsIn.inRound l (callsIn_wide.2 (AU.out W.drew hrow hszW (ht.below (Below.drew hB))))).mono ?_
                rintro e w1 ⟨v1, rfl, own1, bel1, kept1⟩
                (try go_simp)
                (try (refine hK _ _ ?_; clear hK K))
                (try simp only [Act.put, List.setIfInBounds_toArray, List.set_cons_zero, List.set_cons_succ])
                have hv1 := boxed_others kept1 (w := W.drew) hv (by decide)
                have hl1 := boxed_others kept1 (w := W.drew) hleft (by decide)
                have bx1 : Blk w1 Bx _ _ := kept1 Bx _ bX (by simp) (fun c fz e' => by simp at e')
                have cx0 : w1.cell? ⟨Bx, 0, none⟩ = some (.string ⟨wd.toArray⟩) := by simp [World.cell?, show w1.heap[Bx]? = _ from bx1]
                have cx1 : w1.cell? ⟨Bx, 1, none⟩ = some (.int .u64 (z : Int)) := by simp [World.cell?, show w1.heap[Bx]? = _ from bx1]
                obtain ⟨v2, w2, hrun, own2, grow2, -⟩ := Lib.run_append_own_string (P := Tryd.prog) w1 (w.heap.size + 2) 56 9 56 5 i0 Tryd.underlying56 Tryd.underlying9 HI.out HZ.out HZ1.out HZ2.out v1 _ _ own1 ⟨wd.toArray⟩ (by unfold maxLen; have := decLen Q (by omega); have e0 : (⟨wd.toArray⟩ : ByteArray).size = wd.length := rfl; omega) (by have := decLen Q (by omega); have e0 : (⟨wd.toArray⟩ : ByteArray).size = wd.length := rfl; omega) (by have := hl1.lt; omega)
                obtain ⟨g2, cap2, rfl⟩ := own_some own2 (by have := decPos Q; omega)
                have FX := fin_world (wd := wd) (by decide) (by decide) hB hv1 hl1 bel1 kept1 own1 own2 grow2
                have HV := Lib.hid FX
                clear FX
                have c2a := HV.out.b3.cell
                have f2a := HV.out.b3.frozen
                have c2b := HV.out.b4.cell
                have f2b := HV.out.b4.frozen
                have bx2 := heap_grow own1 grow2 (by decide) bx1
                have hBne : Bx ≠ w.heap.size := by omega
                have cx2 : (w2.setCell ⟨w.heap.size, 0, none⟩ (.slice (some ⟨g2, 0, none⟩) (S.length + (Lib.decDigits Q).length + wd.length) cap2)).cell? ⟨Bx, 1, none⟩ = some (.int .u64 (z : Int)) := by rw [show (World.setCell w2 _ _).cell? ⟨Bx, 1, none⟩ = w2.cell? ⟨Bx, 1, none⟩ from World.cell?_of_block (a := ⟨Bx, 1, none⟩) (Below.heap_setCell w2 _ _ Bx hBne)]; simp [World.cell?, show w2.heap[Bx]? = _ from bx2]
                clear own1 own2 grow2 bel1 kept1 hl1
                refine wpAnyIn_ready (rs := [5]) (by kernel_rfl) (by simp) ?_
                refine AllReadyIn.cons rfl (fun K hK => ?_) ?_
                · rw [if_pos (by rfl)]
                  refine oper_append_string (.tmp 27) (.tmp 29) 56 9 rfl rfl rfl hrun ?_
                  refine hK _ _ ?_
                  clear hK K
                  (try simp only [Act.put, List.setIfInBounds_toArray, List.set_cons_zero, List.set_cons_succ])
                  refine wpAnyIn_ready (rs := [6]) (by kernel_rfl) (by simp) ?_
                  refine AllReadyIn.cons rfl (fun K hK => ?_) ?_
                  · go_simp
                    refine hK _ _ ?_
                    clear hK K
                    (try simp only [Act.put, List.setIfInBounds_toArray, List.set_cons_zero, List.set_cons_succ])
                    refine wpAnyIn_done (by kernel_rfl) ?_ _
                    gi_wp2
                    refine ⟨?_, ?_, ?_⟩
                    · exact ((HV.out.ko.trans (KeepsOthers.setCell _ _ _)).trans (KeepsOthers.setCell _ _ _)).from _
                    · exact (HV.out.kw.trans (KeepsWalks.setCell _ _ _)).trans (KeepsWalks.setCell _ _ _)
                    · dsimp only
                      rw [SN.out, if_pos hQ0]
                      exact ⟨⟨_, (HV.out.b3.set _).other (by omega) _, ownsRow_setCell_below (ownsRow_setCell_below HV.out.own (by simp) _) (by simp) _, trivial⟩, (HV.out.b4.other (by omega) _).set _, (HV.out.bel.setCell (by simp) _).setCell (by simp) _⟩
                  exact AllReadyIn.nil
                exact AllReadyIn.nil
              exact AllReadyIn.nil
            exact AllReadyIn.nil
          exact AllReadyIn.nil
        refine AllReadyIn.cons rfl (fun K hK => ?_) ?_
        · go_simp
          refine hK _ _ ?_
          clear hK K
          (try simp only [Act.put, List.setIfInBounds_toArray, List.set_cons_zero, List.set_cons_succ])
          refine wpAnyIn_ready (rs := [0, 4]) (by kernel_rfl) (by simp) ?_
          refine AllReadyIn.cons rfl (fun K hK => ?_) ?_
          · go_simp
            refine hK _ _ ?_
            clear hK K
            (try simp only [Act.put, List.setIfInBounds_toArray, List.set_cons_zero, List.set_cons_succ])
            refine wpAnyIn_ready (rs := [2, 4]) (by kernel_rfl) (by simp) ?_
            refine AllReadyIn.cons rfl (fun K hK => ?_) ?_
            · go_simp
              refine ⟨trivial, ?_⟩
              gi_at_call 31
              refine (CallsIn.inRound l (callsIn_wide.2 (AU.out W.drew hrow hszW (ht.below (Below.drew hB))))).mono ?_
              rintro e w1 ⟨v1, rfl, own1, bel1, kept1⟩
              (try go_simp)
              (try (refine hK _ _ ?_; clear hK K))
              (try simp only [Act.put, List.setIfInBounds_toArray, List.set_cons_zero, List.set_cons_succ])
              have hv1 := boxed_others kept1 (w := W.drew) hv (by decide)
              have hl1 := boxed_others kept1 (w := W.drew) hleft (by decide)
              have bx1 : Blk w1 Bx _ _ := kept1 Bx _ bX (by simp) (fun c fz e' => by simp at e')
              have cx0 : w1.cell? ⟨Bx, 0, none⟩ = some (.string ⟨wd.toArray⟩) := by simp [World.cell?, show w1.heap[Bx]? = _ from bx1]
              have cx1 : w1.cell? ⟨Bx, 1, none⟩ = some (.int .u64 (z : Int)) := by simp [World.cell?, show w1.heap[Bx]? = _ from bx1]
              obtain ⟨v2, w2, hrun, own2, grow2, -⟩ := Lib.run_append_own_string (P := Tryd.prog) w1 (w.heap.size + 2) 56 9 56 5 i0 Tryd.underlying56 Tryd.underlying9 HI.out HZ.out HZ1.out HZ2.out v1 _ _ own1 ⟨wd.toArray⟩ (by unfold maxLen; have := decLen Q (by omega); have e0 : (⟨wd.toArray⟩ : ByteArray).size = wd.length := rfl; omega) (by have := decLen Q (by omega); have e0 : (⟨wd.toArray⟩ : ByteArray).size = wd.length := rfl; omega) (by have := hl1.lt; omega)
              obtain ⟨g2, cap2, rfl⟩ := own_some own2 (by have := decPos Q; omega)
              have FX := fin_world (wd := wd) (by decide) (by decide) hB hv1 hl1 bel1 kept1 own1 own2 grow2
              have HV := Lib.hid FX
              clear FX
              have c2a := HV.out.b3.cell
              have f2a := HV.out.b3.frozen
              have c2b := HV.out.b4.cell
              have f2b := HV.out.b4.frozen
              have bx2 := heap_grow own1 grow2 (by decide) bx1
              have hBne : Bx ≠ w.heap.size := by omega
              have cx2 : (w2.setCell ⟨w.heap.size, 0, none⟩ (.slice (some ⟨g2, 0, none⟩) (S.length + (Lib.decDigits Q).length + wd.length) cap2)).cell? ⟨Bx, 1, none⟩ = some (.int .u64 (z : Int)) := by rw [show (World.setCell w2 _ _).cell? ⟨Bx, 1, none⟩ = w2.cell? ⟨Bx, 1, none⟩ from World.cell?_of_block (a := ⟨Bx, 1, none⟩) (Below.heap_setCell w2 _ _ Bx hBne)]; simp [World.cell?, show w2.heap[Bx]? = _ from bx2]
              clear own1 own2 grow2 bel1 kept1 hl1
              refine wpAnyIn_ready (rs := [4]) (by kernel_rfl) (by simp) ?_
              refine AllReadyIn.cons rfl (fun K hK => ?_) ?_
              · go_simp
                refine hK _ _ ?_
                clear hK K
                (try simp only [Act.put, List.setIfInBounds_toArray, List.set_cons_zero, List.set_cons_succ])
                refine wpAnyIn_ready (rs := [5]) (by kernel_rfl) (by simp) ?_
                refine AllReadyIn.cons rfl (fun K hK => ?_) ?_
                · rw [if_pos (by rfl)]
                  refine oper_append_string (.tmp 27) (.tmp 29) 56 9 rfl rfl rfl hrun ?_
                  refine hK _ _ ?_
                  clear hK K
                  (try simp only [Act.put, List.setIfInBounds_toArray, List.set_cons_zero, List.set_cons_succ])
                  refine wpAnyIn_ready (rs := [6]) (by kernel_rfl) (by simp) ?_
                  refine AllReadyIn.cons rfl (fun K hK => ?_) ?_
                  · go_simp
                    refine hK _ _ ?_
                    clear hK K
                    (try simp only [Act.put, List.setIfInBounds_toArray, List.set_cons_zero, List.set_cons_succ])
                    refine wpAnyIn_done (by kernel_rfl) ?_ _
                    gi_wp2
                    refine ⟨?_, ?_, ?_⟩
                    · exact ((HV.out.ko.trans (KeepsOthers.setCell _ _ _)).trans (KeepsOthers.setCell _ _ _)).from _
                    · exact (HV.out.kw.trans (KeepsWalks.setCell _ _ _)).trans (KeepsWalks.setCell _ _ _)
                    · dsimp only
                      rw [SN.out, if_pos hQ0]
                      exact ⟨⟨_, (HV.out.b3.set _).other (by omega) _, ownsRow_setCell_below (ownsRow_setCell_below HV.out.own (by simp) _) (by simp) _, trivial⟩, (HV.out.b4.other (by omega) _).set _, (HV.out.bel.setCell (by simp) _).setCell (by simp) _⟩
                  exact AllReadyIn.nil
                exact AllReadyIn.nil
              exact AllReadyIn.nil
            refine AllReadyIn.cons rfl (fun K hK => ?_) ?_
            · go_simp
              refine hK _ _ ?_
              clear hK K
              (try simp only [Act.put, List.setIfInBounds_toArray, List.set_cons_zero, List.set_cons_succ])
              refine wpAnyIn_ready (rs := [2]) (by kernel_rfl) (by simp) ?_
              refine AllReadyIn.cons rfl (fun K hK => ?_) ?_
              · go_simp
                refine ⟨trivial, ?_⟩
                gi_at_call 31
                refine (CallsIn.inRound l (callsIn_wide.2 (AU.out W.drew hrow hszW (ht.below (Below.drew hB))))).mono ?_
                rintro e w1 ⟨v1, rfl, own1, bel1, kept1⟩
                (try go_simp)
                (try (refine hK _ _ ?_; clear hK K))
                (try simp only [Act.put, List.setIfInBounds_toArray, List.set_cons_zero, List.set_cons_succ])
                have hv1 := boxed_others kept1 (w := W.drew) hv (by decide)
                have hl1 := boxed_others kept1 (w := W.drew) hleft (by decide)
                have bx1 : Blk w1 Bx _ _ := kept1 Bx _ bX (by simp) (fun c fz e' => by simp at e')
                have cx0 : w1.cell? ⟨Bx, 0, none⟩ = some (.string ⟨wd.toArray⟩) := by simp [World.cell?, show w1.heap[Bx]? = _ from bx1]
                have cx1 : w1.cell? ⟨Bx, 1, none⟩ = some (.int .u64 (z : Int)) := by simp [World.cell?, show w1.heap[Bx]? = _ from bx1]
                obtain ⟨v2, w2, hrun, own2, grow2, -⟩ := Lib.run_append_own_string (P := Tryd.prog) w1 (w.heap.size + 2) 56 9 56 5 i0 Tryd.underlying56 Tryd.underlying9 HI.out HZ.out HZ1.out HZ2.out v1 _ _ own1 ⟨wd.toArray⟩ (by unfold maxLen; have := decLen Q (by omega); have e0 : (⟨wd.toArray⟩ : ByteArray).size = wd.length := rfl; omega) (by have := decLen Q (by omega); have e0 : (⟨wd.toArray⟩ : ByteArray).size = wd.length := rfl; omega) (by have := hl1.lt; omega)
                obtain ⟨g2, cap2, rfl⟩ := own_some own2 (by have := decPos Q; omega)
                have FX := fin_world (wd := wd) (by decide) (by decide) hB hv1 hl1 bel1 kept1 own1 own2 grow2
                have HV := Lib.hid FX
                clear FX
                have c2a := HV.out.b3.cell
                have f2a := HV.out.b3.frozen
                have c2b := HV.out.b4.cell
                have f2b := HV.out.b4.frozen
                have bx2 := heap_grow own1 grow2 (by decide) bx1
                have hBne : Bx ≠ w.heap.size := by omega
                have cx2 : (w2.setCell ⟨w.heap.size, 0, none⟩ (.slice (some ⟨g2, 0, none⟩) (S.length + (Lib.decDigits Q).length + wd.length) cap2)).cell? ⟨Bx, 1, none⟩ = some (.int .u64 (z : Int)) := by rw [show (World.setCell w2 _ _).cell? ⟨Bx, 1, none⟩ = w2.cell? ⟨Bx, 1, none⟩ from World.cell?_of_block (a := ⟨Bx, 1, none⟩) (Below.heap_setCell w2 _ _ Bx hBne)]; simp [World.cell?, show w2.heap[Bx]? = _ from bx2]
                clear own1 own2 grow2 bel1 kept1 hl1
                refine wpAnyIn_ready (rs := [5]) (by kernel_rfl) (by simp) ?_
                refine AllReadyIn.cons rfl (fun K hK => ?_) ?_
                · rw [if_pos (by rfl)]
                  refine oper_append_string (.tmp 27) (.tmp 29) 56 9 rfl rfl rfl hrun ?_
                  refine hK _ _ ?_
                  clear hK K
                  (try simp only [Act.put, List.setIfInBounds_toArray, List.set_cons_zero, List.set_cons_succ])
                  refine wpAnyIn_ready (rs := [6]) (by kernel_rfl) (by simp) ?_
                  refine AllReadyIn.cons rfl (fun K hK => ?_) ?_
                  · go_simp
                    refine hK _ _ ?_
                    clear hK K
                    (try simp only [Act.put, List.setIfInBounds_toArray, List.set_cons_zero, List.set_cons_succ])
                    refine wpAnyIn_done (by kernel_rfl) ?_ _
                    gi_wp2
                    refine ⟨?_, ?_, ?_⟩
                    · exact ((HV.out.ko.trans (KeepsOthers.setCell _ _ _)).trans (KeepsOthers.setCell _ _ _)).from _
                    · exact (HV.out.kw.trans (KeepsWalks.setCell _ _ _)).trans (KeepsWalks.setCell _ _ _)
                    · dsimp only
                      rw [SN.out, if_pos hQ0]
                      exact ⟨⟨_, (HV.out.b3.set _).other (by omega) _, ownsRow_setCell_below (ownsRow_setCell_below HV.out.own (by simp) _) (by simp) _, trivial⟩, (HV.out.b4.other (by omega) _).set _, (HV.out.bel.setCell (by simp) _).setCell (by simp) _⟩
                  exact AllReadyIn.nil
                exact AllReadyIn.nil
              exact AllReadyIn.nil
            exact AllReadyIn.nil
          refine AllReadyIn.cons rfl (fun K hK => ?_) ?_
          · go_simp
            refine hK _ _ ?_
            clear hK K
            (try simp only [Act.put, List.setIfInBounds_toArray, List.set_cons_zero, List.set_cons_succ])
            refine wpAnyIn_ready (rs := [0]) (by kernel_rfl) (by simp) ?_
            refine AllReadyIn.cons rfl (fun K hK => ?_) ?_
            · go_simp
              refine hK _ _ ?_
              clear hK K
              (try simp only [Act.put, List.setIfInBounds_toArray, List.set_cons_zero, List.set_cons_succ])
              refine wpAnyIn_ready (rs := [2]) (by kernel_rfl) (by simp) ?_
              refine AllReadyIn.cons rfl (fun K hK => ?_) ?_
              · go_simp
                refine ⟨trivial, ?_⟩
                gi_at_call 31
                refine (CallsIn.inRound l (callsIn_wide.2 (AU.out W.drew hrow hszW (ht.below (Below.drew hB))))).mono ?_
                rintro e w1 ⟨v1, rfl, own1, bel1, kept1⟩
                (try go_simp)
                (try (refine hK _ _ ?_; clear hK K))
                (try simp only [Act.put, List.setIfInBounds_toArray, List.set_cons_zero, List.set_cons_succ])
                have hv1 := boxed_others kept1 (w := W.drew) hv (by decide)
                have hl1 := boxed_others kept1 (w := W.drew) hleft (by decide)
                have bx1 : Blk w1 Bx _ _ := kept1 Bx _ bX (by simp) (fun c fz e' => by simp at e')
                have cx0 : w1.cell? ⟨Bx, 0, none⟩ = some (.string ⟨wd.toArray⟩) := by simp [World.cell?, show w1.heap[Bx]? = _ from bx1]
                have cx1 : w1.cell? ⟨Bx, 1, none⟩ = some (.int .u64 (z : Int)) := by simp [World.cell?, show w1.heap[Bx]? = _ from bx1]
                obtain ⟨v2, w2, hrun, own2, grow2, -⟩ := Lib.run_append_own_string (P := Tryd.prog) w1 (w.heap.size + 2) 56 9 56 5 i0 Tryd.underlying56 Tryd.underlying9 HI.out HZ.out HZ1.out HZ2.out v1 _ _ own1 ⟨wd.toArray⟩ (by unfold maxLen; have := decLen Q (by omega); have e0 : (⟨wd.toArray⟩ : ByteArray).size = wd.length := rfl; omega) (by have := decLen Q (by omega); have e0 : (⟨wd.toArray⟩ : ByteArray).size = wd.length := rfl; omega) (by have := hl1.lt; omega)
                obtain ⟨g2, cap2, rfl⟩ := own_some own2 (by have := decPos Q; omega)
                have FX := fin_world (wd := wd) (by decide) (by decide) hB hv1 hl1 bel1 kept1 own1 own2 grow2
                have HV := Lib.hid FX
                clear FX
                have c2a := HV.out.b3.cell
                have f2a := HV.out.b3.frozen
                have c2b := HV.out.b4.cell
                have f2b := HV.out.b4.frozen
                have bx2 := heap_grow own1 grow2 (by decide) bx1
                have hBne : Bx ≠ w.heap.size := by omega
                have cx2 : (w2.setCell ⟨w.heap.size, 0, none⟩ (.slice (some ⟨g2, 0, none⟩) (S.length + (Lib.decDigits Q).length + wd.length) cap2)).cell? ⟨Bx, 1, none⟩ = some (.int .u64 (z : Int)) := by rw [show (World.setCell w2 _ _).cell? ⟨Bx, 1, none⟩ = w2.cell? ⟨Bx, 1, none⟩ from World.cell?_of_block (a := ⟨Bx, 1, none⟩) (Below.heap_setCell w2 _ _ Bx hBne)]; simp [World.cell?, show w2.heap[Bx]? = _ from bx2]
                clear own1 own2 grow2 bel1 kept1 hl1
                refine wpAnyIn_ready (rs := [5]) (by kernel_rfl) (by simp) ?_
                refine AllReadyIn.cons rfl (fun K hK => ?_) ?_
                · rw [if_pos (by rfl)]
                  refine oper_append_string (.tmp 27) (.tmp 29) 56 9 rfl rfl rfl hrun ?_
                  refine hK _ _ ?_
                  clear hK K
                  (try simp only [Act.put, List.setIfInBounds_toArray, List.set_cons_zero, List.set_cons_succ])
                  refine wpAnyIn_ready (rs := [6]) (by kernel_rfl) (by simp) ?_
                  refine AllReadyIn.cons rfl (fun K hK => ?_) ?_
                  · go_simp
                    refine hK _ _ ?_
                    clear hK K
                    (try simp only [Act.put, List.setIfInBounds_toArray, List.set_cons_zero, List.set_cons_succ])
                    refine wpAnyIn_done (by kernel_rfl) ?_ _
                    gi_wp2
                    refine ⟨?_, ?_, ?_⟩
                    · exact ((HV.out.ko.trans (KeepsOthers.setCell _ _ _)).trans (KeepsOthers.setCell _ _ _)).from _
                    · exact (HV.out.kw.trans (KeepsWalks.setCell _ _ _)).trans (KeepsWalks.setCell _ _ _)
                    · dsimp only
                      rw [SN.out, if_pos hQ0]
                      exact ⟨⟨_, (HV.out.b3.set _).other (by omega) _, ownsRow_setCell_below (ownsRow_setCell_below HV.out.own (by simp) _) (by simp) _, trivial⟩, (HV.out.b4.other (by omega) _).set _, (HV.out.bel.setCell (by simp) _).setCell (by simp) _⟩
                  exact AllReadyIn.nil
                exact AllReadyIn.nil
              exact AllReadyIn.nil
            exact AllReadyIn.nil
          exact AllReadyIn.nil
        exact AllReadyIn.nil
      refine AllReadyIn.cons rfl (fun K hK => ?_) ?_
      · go_simp
        refine hK _ _ ?_
        clear hK K
        (try simp only [Act.put, List.setIfInBounds_toArray, List.set_cons_zero, List.set_cons_succ])
        refine wpAnyIn_ready (rs := [0, 1, 4]) (by kernel_rfl) (by simp) ?_
        refine AllReadyIn.cons rfl (fun K hK => ?_) ?_
        · go_simp
          refine hK _ _ ?_
          clear hK K
          (try simp only [Act.put, List.setIfInBounds_toArray, List.set_cons_zero, List.set_cons_succ])
          refine wpAnyIn_ready (rs := [1, 4]) (by kernel_rfl) (by simp) ?_
          refine AllReadyIn.cons rfl (fun K hK => ?_) ?_
          · go_simp
            refine hK _ _ ?_
            clear hK K
            (try simp only [Act.put, List.setIfInBounds_toArray, List.set_cons_zero, List.set_cons_succ])
            refine wpAnyIn_ready (rs := [2, 4]) (by kernel_rfl) (by simp) ?_
            refine AllReadyIn.cons rfl (fun K hK => ?_) ?_
            · go_simp
              refine ⟨trivial, ?_⟩
              gi_at_call 31
              refine (CallsIn.inRound l (callsIn_wide.2 (AU.out W.drew hrow hszW (ht.below (Below.drew hB))))).mono ?_
              rintro e w1 ⟨v1, rfl, own1, bel1, kept1⟩
              (try go_simp)
              (try (refine hK _ _ ?_; clear hK K))
              (try simp only [Act.put, List.setIfInBounds_toArray, List.set_cons_zero, List.set_cons_succ])
              have hv1 := boxed_others kept1 (w := W.drew) hv (by decide)
              have hl1 := boxed_others kept1 (w := W.drew) hleft (by decide)
              have bx1 : Blk w1 Bx _ _ := kept1 Bx _ bX (by simp) (fun c fz e' => by simp at e')
              have cx0 : w1.cell? ⟨Bx, 0, none⟩ = some (.string ⟨wd.toArray⟩) := by simp [World.cell?, show w1.heap[Bx]? = _ from bx1]
              have cx1 : w1.cell? ⟨Bx, 1, none⟩ = some (.int .u64 (z : Int)) := by simp [World.cell?, show w1.heap[Bx]? = _ from bx1]
              obtain ⟨v2, w2, hrun, own2, grow2, -⟩ := Lib.run_append_own_string (P := Tryd.prog) w1 (w.heap.size + 2) 56 9 56 5 i0 Tryd.underlying56 Tryd.underlying9 HI.out HZ.out HZ1.out HZ2.out v1 _ _ own1 ⟨wd.toArray⟩ (by unfold maxLen; have := decLen Q (by omega); have e0 : (⟨wd.toArray⟩ : ByteArray).size = wd.length := rfl; omega) (by have := decLen Q (by omega); have e0 : (⟨wd.toArray⟩ : ByteArray).size = wd.length := rfl; omega) (by have := hl1.lt; omega)
              obtain ⟨g2, cap2, rfl⟩ := own_some own2 (by have := decPos Q; omega)
              have FX := fin_world (wd := wd) (by decide) (by decide) hB hv1 hl1 bel1 kept1 own1 own2 grow2
              have HV := Lib.hid FX
              clear FX
              have c2a := HV.out.b3.cell
              have f2a := HV.out.b3.frozen
              have c2b := HV.out.b4.cell
              have f2b := HV.out.b4.frozen
              have bx2 := heap_grow own1 grow2 (by decide) bx1
              have hBne : Bx ≠ w.heap.size := by omega
              have cx2 : (w2.setCell ⟨w.heap.size, 0, none⟩ (.slice (some ⟨g2, 0, none⟩) (S.length + (Lib.decDigits Q).length + wd.length) cap2)).cell? ⟨Bx, 1, none⟩ = some (.int .u64 (z : Int)) := by rw [show (World.setCell w2 _ _).cell? ⟨Bx, 1, none⟩ = w2.cell? ⟨Bx, 1, none⟩ from World.cell?_of_block (a := ⟨Bx, 1, none⟩) (Below.heap_setCell w2 _ _ Bx hBne)]; simp [World.cell?, show w2.heap[Bx]? = _ from bx2]
              clear own1 own2 grow2 bel1 kept1 hl1
              refine wpAnyIn_ready (rs := [4]) (by kernel_rfl) (by simp) ?_
              refine AllReadyIn.cons rfl (fun K hK => ?_) ?_
              · go_simp
                refine hK _ _ ?_
                clear hK K
                (try simp only [Act.put, List.setIfInBounds_toArray, List.set_cons_zero, List.set_cons_succ])
                refine wpAnyIn_ready (rs := [5]) (by kernel_rfl) (by simp) ?_
                refine AllReadyIn.cons rfl (fun K hK => ?_) ?_
                · rw [if_pos (by rfl)]
                  refine oper_append_string (.tmp 27) (.tmp 29) 56 9 rfl rfl rfl hrun ?_
                  refine hK _ _ ?_
                  clear hK K
                  (try simp only [Act.put, List.setIfInBounds_toArray, List.set_cons_zero, List.set_cons_succ])
                  refine wpAnyIn_ready (rs := [6]) (by kernel_rfl) (by simp) ?_
                  refine AllReadyIn.cons rfl (fun K hK => ?_) ?_
                  · go_simp
                    refine hK _ _ ?_
                    clear hK K
                    (try simp only [Act.put, List.setIfInBounds_toArray, List.set_cons_zero, List.set_cons_succ])
                    refine wpAnyIn_done (by kernel_rfl) ?_ _
                    gi_wp2
                    refine ⟨?_, ?_, ?_⟩
                    · exact ((HV.out.ko.trans (KeepsOthers.setCell _ _ _)).trans (KeepsOthers.setCell _ _ _)).from _
                    · exact (HV.out.kw.trans (KeepsWalks.setCell _ _ _)).trans (KeepsWalks.setCell _ _ _)
                    · dsimp only
                      rw [SN.out, if_pos hQ0]
                      exact ⟨⟨_, (HV.out.b3.set _).other (by omega) _, ownsRow_setCell_below (ownsRow_setCell_below HV.out.own (by simp) _) (by simp) _, trivial⟩, (HV.out.b4.other (by omega) _).set _, (HV.out.bel.setCell (by simp) _).setCell (by simp) _⟩
                  exact AllReadyIn.nil
                exact AllReadyIn.nil
              exact AllReadyIn.nil
            refine AllReadyIn.cons rfl (fun K hK => ?_) ?_
            · go_simp
              refine hK _ _ ?_
              clear hK K
              (try simp only [Act.put, List.setIfInBounds_toArray, List.set_cons_zero, List.set_cons_succ])
              refine wpAnyIn_ready (rs := [2]) (by kernel_rfl) (by simp) ?_
              refine AllReadyIn.cons rfl (fun K hK => ?_) ?_
              · go_simp
                refine ⟨trivial, ?_⟩
                gi_at_call 31
                refine (CallsIn.inRound l (callsIn_wide.2 (AU.out W.drew hrow hszW (ht.below (Below.drew hB))))).mono ?_
                rintro e w1 ⟨v1, rfl, own1, bel1, kept1⟩
                (try go_simp)
                (try (refine hK _ _ ?_; clear hK K))
                (try simp only [Act.put, List.setIfInBounds_toArray, List.set_cons_zero, List.set_cons_succ])
                have hv1 := boxed_others kept1 (w := W.drew) hv (by decide)
                have hl1 := boxed_others kept1 (w := W.drew) hleft (by decide)
                have bx1 : Blk w1 Bx _ _ := kept1 Bx _ bX (by simp) (fun c fz e' => by simp at e')
                have cx0 : w1.cell? ⟨Bx, 0, none⟩ = some (.string ⟨wd.toArray⟩) := by simp [World.cell?, show w1.heap[Bx]? = _ from bx1]
                have cx1 : w1.cell? ⟨Bx, 1, none⟩ = some (.int .u64 (z : Int)) := by simp [World.cell?, show w1.heap[Bx]? = _ from bx1]
                obtain ⟨v2, w2, hrun, own2, grow2, -⟩ := Lib.run_append_own_string (P := Tryd.prog) w1 (w.heap.size + 2) 56 9 56 5 i0 Tryd.underlying56 Tryd.underlying9 HI.out HZ.out HZ1.out HZ2.out v1 _ _ own1 ⟨wd.toArray⟩ (by unfold maxLen; have := decLen Q (by omega); have e0 : (⟨wd.toArray⟩ : ByteArray).size = wd.length := rfl; omega) (by have := decLen Q (by omega); have e0 : (⟨wd.toArray⟩ : ByteArray).size = wd.length := rfl; omega) (by have := hl1.lt; omega)
                obtain ⟨g2, cap2, rfl⟩ := own_some own2 (by have := decPos Q; omega)
                have FX := fin_world (wd := wd) (by decide) (by decide) hB hv1 hl1 bel1 kept1 own1 own2 grow2
                have HV := Lib.hid FX
                clear FX
                have c2a := HV.out.b3.cell
                have f2a := HV.out.b3.frozen
                have c2b := HV.out.b4.cell
                have f2b := HV.out.b4.frozen
                have bx2 := heap_grow own1 grow2 (by decide) bx1
                have hBne : Bx ≠ w.heap.size := by omega
                have cx2 : (w2.setCell ⟨w.heap.size, 0, none⟩ (.slice (some ⟨g2, 0, none⟩) (S.length + (Lib.decDigits Q).length + wd.length) cap2)).cell? ⟨Bx, 1, none⟩ = some (.int .u64 (z : Int)) := by rw [show (World.setCell w2 _ _).cell? ⟨Bx, 1, none⟩ = w2.cell? ⟨Bx, 1, none⟩ from World.cell?_of_block (a := ⟨Bx, 1, none⟩) (Below.heap_setCell w2 _ _ Bx hBne)]; simp [World.cell?, show w2.heap[Bx]? = _ from bx2]
                clear own1 own2 grow2 bel1 kept1 hl1
                refine wpAnyIn_ready (rs := [5]) (by kernel_rfl) (by simp) ?_
                refine AllReadyIn.cons rfl (fun K hK => ?_) ?_
                · rw [if_pos (by rfl)]
                  refine oper_append_string (.tmp 27) (.tmp 29) 56 9 rfl rfl rfl hrun ?_
                  refine hK _ _ ?_
                  clear hK K
                  (try simp only [Act.put, List.setIfInBounds_toArray, List.set_cons_zero, List.set_cons_succ])
                  refine wpAnyIn_ready (rs := [6]) (by kernel_rfl) (by simp) ?_
                  refine AllReadyIn.cons rfl (fun K hK => ?_) ?_
                  · go_simp
                    refine hK _ _ ?_
                    clear hK K
                    (try simp only [Act.put, List.setIfInBounds_toArray, List.set_cons_zero, List.set_cons_succ])
                    refine wpAnyIn_done (by kernel_rfl) ?_ _
                    gi_wp2
                    refine ⟨?_, ?_, ?_⟩
                    · exact ((HV.out.ko.trans (KeepsOthers.setCell _ _ _)).trans (KeepsOthers.setCell _ _ _)).from _
                    · exact (HV.out.kw.trans (KeepsWalks.setCell _ _ _)).trans (KeepsWalks.setCell _ _ _)
                    · dsimp only
                      rw [SN.out, if_pos hQ0]
                      exact ⟨⟨_, (HV.out.b3.set _).other (by omega) _, ownsRow_setCell_below (ownsRow_setCell_below HV.out.own (by simp) _) (by simp) _, trivial⟩, (HV.out.b4.other (by omega) _).set _, (HV.out.bel.setCell (by simp) _).setCell (by simp) _⟩
                  exact AllReadyIn.nil
                exact AllReadyIn.nil
              exact AllReadyIn.nil
            exact AllReadyIn.nil
          refine AllReadyIn.cons rfl (fun K hK => ?_) ?_
          · go_simp
            refine hK _ _ ?_
            clear hK K
            (try simp only [Act.put, List.setIfInBounds_toArray, List.set_cons_zero, List.set_cons_succ])
            refine wpAnyIn_ready (rs := [1]) (by kernel_rfl) (by simp) ?_
            refine AllReadyIn.cons rfl (fun K hK => ?_) ?_
            · go_simp
              refine hK _ _ ?_
              clear hK K
              (try simp only [Act.put, List.setIfInBounds_toArray, List.set_cons_zero, List.set_cons_succ])
              refine wpAnyIn_ready (rs := [2]) (by kernel_rfl) (by simp) ?_
              refine AllReadyIn.cons rfl (fun K hK => ?_) ?_
              · go_simp
                refine ⟨trivial, ?_⟩
                gi_at_call 31
                refine (CallsIn.inRound l (callsIn_wide.2 (AU.out W.drew hrow hszW (ht.below (Below.drew hB))))).mono ?_
                rintro e w1 ⟨v1, rfl, own1, bel1, kept1⟩
                (try go_simp)
                (try (refine hK _ _ ?_; clear hK K))
                (try simp only [Act.put, List.setIfInBounds_toArray, List.set_cons_zero, List.set_cons_succ])
                have hv1 := boxed_others kept1 (w := W.drew) hv (by decide)
                have hl1 := boxed_others kept1 (w := W.drew) hleft (by decide)
                have bx1 : Blk w1 Bx _ _ := kept1 Bx _ bX (by simp) (fun c fz e' => by simp at e')
                have cx0 : w1.cell? ⟨Bx, 0, none⟩ = some (.string ⟨wd.toArray⟩) := by simp [World.cell?, show w1.heap[Bx]? = _ from bx1]
                have cx1 : w1.cell? ⟨Bx, 1, none⟩ = some (.int .u64 (z : Int)) := by simp [World.cell?, show w1.heap[Bx]? = _ from bx1]
                obtain ⟨v2, w2, hrun, own2, grow2, -⟩ := Lib.run_append_own_string (P := Tryd.prog) w1 (w.heap.size + 2) 56 9 56 5 i0 Tryd.underlying56 Tryd.underlying9 HI.out HZ.out HZ1.out HZ2.out v1 _ _ own1 ⟨wd.toArray⟩ (by unfold maxLen; have := decLen Q (by omega); have e0 : (⟨wd.toArray⟩ : ByteArray).size = wd.length := rfl; omega) (by have := decLen Q (by omega); have e0 : (⟨wd.toArray⟩ : ByteArray).size = wd.length := rfl; omega) (by have := hl1.lt; omega)
                obtain ⟨g2, cap2, rfl⟩ := own_some own2 (by have := decPos Q; omega)
                have FX := fin_world (wd := wd) (by decide) (by decide) hB hv1 hl1 bel1 kept1 own1 own2 grow2
                have HV := Lib.hid FX
                clear FX
                have c2a := HV.out.b3.cell
                have f2a := HV.out.b3.frozen
                have c2b := HV.out.b4.cell
                have f2b := HV.out.b4.frozen
                have bx2 := heap_grow own1 grow2 (by decide) bx1
                have hBne : Bx ≠ w.heap.size := by omega
                have cx2 : (w2.setCell ⟨w.heap.size, 0, none⟩ (.slice (some ⟨g2, 0, none⟩) (S.length + (Lib.decDigits Q).length + wd.length) cap2)).cell? ⟨Bx, 1, none⟩ = some (.int .u64 (z : Int)) := by rw [show (World.setCell w2 _ _).cell? ⟨Bx, 1, none⟩ = w2.cell? ⟨Bx, 1, none⟩ from World.cell?_of_block (a := ⟨Bx, 1, none⟩) (Below.heap_setCell w2 _ _ Bx hBne)]; simp [World.cell?, show w2.heap[Bx]? = _ from bx2]
                clear own1 own2 grow2 bel1 kept1 hl1
                refine wpAnyIn_ready (rs := [5]) (by kernel_rfl) (by simp) ?_
                refine AllReadyIn.cons rfl (fun K hK => ?_) ?_
                · rw [if_pos (by rfl)]
                  refine oper_append_string (.tmp 27) (.tmp 29) 56 9 rfl rfl rfl hrun ?_
                  refine hK _ _ ?_
                  clear hK K
                  (try simp only [Act.put, List.setIfInBounds_toArray, List.set_cons_zero, List.set_cons_succ])
                  refine wpAnyIn_ready (rs := [6]) (by kernel_rfl) (by simp) ?_
                  refine AllReadyIn.cons rfl (fun K hK => ?_) ?_
                  · go_simp
                    refine hK _ _ ?_
                    clear hK K
                    (try simp only [Act.put, List.setIfInBounds_toArray, List.set_cons_zero, List.set_cons_succ])
                    refine wpAnyIn_done (by kernel_rfl) ?_ _
                    gi_wp2
                    refine ⟨?_, ?_, ?_⟩
                    · exact ((HV.out.ko.trans (KeepsOthers.setCell _ _ _)).trans (KeepsOthers.setCell _ _ _)).from _
                    · exact (HV.out.kw.trans (KeepsWalks.setCell _ _ _)).trans (KeepsWalks.setCell _ _ _)
                    · dsimp only
                      rw [SN.out, if_pos hQ0]
                      exact ⟨⟨_, (HV.out.b3.set _).other (by omega) _, ownsRow_setCell_below (ownsRow_setCell_below HV.out.own (by simp) _) (by simp) _, trivial⟩, (HV.out.b4.other (by omega) _).set _, (HV.out.bel.setCell (by simp) _).setCell (by simp) _⟩
                  exact AllReadyIn.nil
                exact AllReadyIn.nil
              exact AllReadyIn.nil
            exact AllReadyIn.nil
          exact AllReadyIn.nil
        refine AllReadyIn.cons rfl (fun K hK => ?_) ?_
        · go_simp
          refine hK _ _ ?_
          clear hK K
          (try simp only [Act.put, List.setIfInBounds_toArray, List.set_cons_zero, List.set_cons_succ])
          refine wpAnyIn_ready (rs := [0, 4]) (by kernel_rfl) (by simp) ?_
          refine AllReadyIn.cons rfl (fun K hK => ?_) ?_
          · go_simp
            refine hK _ _ ?_
            clear hK K
            (try simp only [Act.put, List.setIfInBounds_toArray, List.set_cons_zero, List.set_cons_succ])
            refine wpAnyIn_ready (rs := [2, 4]) (by kernel_rfl) (by simp) ?_
            refine AllReadyIn.cons rfl (fun K hK => ?_) ?_
            · go_simp
              refine ⟨trivial, ?_⟩
              gi_at_call 31
              refine (CallsIn.inRound l (callsIn_wide.2 (AU.out W.drew hrow hszW (ht.below (Below.drew hB))))).mono ?_
              rintro e w1 ⟨v1, rfl, own1, bel1, kept1⟩
              (try go_simp)
              (try (refine hK _ _ ?_; clear hK K))
              (try simp only [Act.put, List.setIfInBounds_toArray, List.set_cons_zero, List.set_cons_succ])
              have hv1 := boxed_others kept1 (w := W.drew) hv (by decide)
              have hl1 := boxed_others kept1 (w := W.drew) hleft (by decide)
              have bx1 : Blk w1 Bx _ _ := kept1 Bx _ bX (by simp) (fun c fz e' => by simp at e')
              have cx0 : w1.cell? ⟨Bx, 0, none⟩ = some (.string ⟨wd.toArray⟩) := by simp [World.cell?, show w1.heap[Bx]? = _ from bx1]
              have cx1 : w1.cell? ⟨Bx, 1, none⟩ = some (.int .u64 (z : Int)) := by simp [World.cell?, show w1.heap[Bx]? = _ from bx1]
              obtain ⟨v2, w2, hrun, own2, grow2, -⟩ := Lib.run_append_own_string (P := Tryd.prog) w1 (w.heap.size + 2) 56 9 56 5 i0 Tryd.underlying56 Tryd.underlying9 HI.out HZ.out HZ1.out HZ2.out v1 _ _ own1 ⟨wd.toArray⟩ (by unfold maxLen; have := decLen Q (by omega); have e0 : (⟨wd.toArray⟩ : ByteArray).size = wd.length := rfl; omega) (by have := decLen Q (by omega); have e0 : (⟨wd.toArray⟩ : ByteArray).size = wd.length := rfl; omega) (by have := hl1.lt; omega)
              obtain ⟨g2, cap2, rfl⟩ := own_some own2 (by have := decPos Q; omega)
              have FX := fin_world (wd := wd) (by decide) (by decide) hB hv1 hl1 bel1 kept1 own1 own2 grow2
              have HV := Lib.hid FX
              clear FX
              have c2a := HV.out.b3.cell
              have f2a := HV.out.b3.frozen
              have c2b := HV.out.b4.cell
              have f2b := HV.out.b4.frozen
              have bx2 := heap_grow own1 grow2 (by decide) bx1
              have hBne : Bx ≠ w.heap.size := by omega
              have cx2 : (w2.setCell ⟨w.heap.size, 0, none⟩ (.slice (some ⟨g2, 0, none⟩) (S.length + (Lib.decDigits Q).length + wd.length) cap2)).cell? ⟨Bx, 1, none⟩ = some (.int .u64 (z : Int)) := by rw [show (World.setCell w2 _ _).cell? ⟨Bx, 1, none⟩ = w2.cell? ⟨Bx, 1, none⟩ from World.cell?_of_block (a := ⟨Bx, 1, none⟩) (Below.heap_setCell w2 _ _ Bx hBne)]; simp [World.cell?, show w2.heap[Bx]? = _ from bx2]
              clear own1 own2 grow2 bel1 kept1 hl1
              refine wpAnyIn_ready (rs := [4]) (by kernel_rfl) (by simp) ?_
              refine AllReadyIn.cons rfl (fun K hK => ?_) ?_
              · go_simp
                refine hK _ _ ?_
                clear hK K
                (try simp only [Act.put, List.setIfInBounds_toArray, List.set_cons_zero, List.set_cons_succ])
                refine wpAnyIn_ready (rs := [5]) (by kernel_rfl) (by simp) ?_
                refine AllReadyIn.cons rfl (fun K hK => ?_) ?_
                · rw [if_pos (by rfl)]
                  refine oper_append_string (.tmp 27) (.tmp 29) 56 9 rfl rfl rfl hrun ?_
                  refine hK _ _ ?_
                  clear hK K
                  (try simp only [Act.put, List.setIfInBounds_toArray, List.set_cons_zero, List.set_cons_succ])
                  refine wpAnyIn_ready (rs := [6]) (by kernel_rfl) (by simp) ?_
                  refine AllReadyIn.cons rfl (fun K hK => ?_) ?_
                  · go_simp
                    refine hK _ _ ?_
                    clear hK K
                    (try simp only [Act.put, List.setIfInBounds_toArray, List.set_cons_zero, List.set_cons_succ])
                    refine wpAnyIn_done (by kernel_rfl) ?_ _
                    gi_wp2
                    refine ⟨?_, ?_, ?_⟩
                    · exact ((HV.out.ko.trans (KeepsOthers.setCell _ _ _)).trans (KeepsOthers.setCell _ _ _)).from _
                    · exact (HV.out.kw.trans (KeepsWalks.setCell _ _ _)).trans (KeepsWalks.setCell _ _ _)
                    · dsimp only
                      rw [SN.out, if_pos hQ0]
                      exact ⟨⟨_, (HV.out.b3.set _).other (by omega) _, ownsRow_setCell_below (ownsRow_setCell_below HV.out.own (by simp) _) (by simp) _, trivial⟩, (HV.out.b4.other (by omega) _).set _, (HV.out.bel.setCell (by simp) _).setCell (by simp) _⟩
                  exact AllReadyIn.nil
                exact AllReadyIn.nil
              exact AllReadyIn.nil
            refine AllReadyIn.cons rfl (fun K hK => ?_) ?_
            · go_simp
              refine hK _ _ ?_
              clear hK K
              (try simp only [Act.put, List.setIfInBounds_toArray, List.set_cons_zero, List.set_cons_succ])
              refine wpAnyIn_ready (rs := [2]) (by kernel_rfl) (by simp) ?_
              refine AllReadyIn.cons rfl (fun K hK => ?_) ?_
              · go_simp
                refine ⟨trivial, ?_⟩
                gi_at_call 31
                refine (CallsIn.inRound l (callsIn_wide.2 (AU.out W.drew hrow hszW (ht.below (Below.drew hB))))).mono ?_
                rintro e w1 ⟨v1, rfl, own1, bel1, kept1⟩
                (try go_simp)
                (try (refine hK _ _ ?_; clear hK K))
                (try simp only [Act.put, List.setIfInBounds_toArray, List.set_cons_zero, List.set_cons_succ])
                have hv1 := boxed_others kept1 (w := W.drew) hv (by decide)
                have hl1 := boxed_others kept1 (w := W.drew) hleft (by decide)
                have bx1 : Blk w1 Bx _ _ := kept1 Bx _ bX (by simp) (fun c fz e' => by simp at e')
                have cx0 : w1.cell? ⟨Bx, 0, none⟩ = some (.string ⟨wd.toArray⟩) := by simp [World.cell?, show w1.heap[Bx]? = _ from bx1]
                have cx1 : w1.cell? ⟨Bx, 1, none⟩ = some (.int .u64 (z : Int)) := by simp [World.cell?, show w1.heap[Bx]? = _ from bx1]
                obtain ⟨v2, w2, hrun, own2, grow2, -⟩ := Lib.run_append_own_string (P := Tryd.prog) w1 (w.heap.size + 2) 56 9 56 5 i0 Tryd.underlying56 Tryd.underlying9 HI.out HZ.out HZ1.out HZ2.out v1 _ _ own1 ⟨wd.toArray⟩ (by unfold maxLen; have := decLen Q (by omega); have e0 : (⟨wd.toArray⟩ : ByteArray).size = wd.length := rfl; omega) (by have := decLen Q (by omega); have e0 : (⟨wd.toArray⟩ : ByteArray).size = wd.length := rfl; omega) (by have := hl1.lt; omega)
                obtain ⟨g2, cap2, rfl⟩ := own_some own2 (by have := decPos Q; omega)
                have FX := fin_world (wd := wd) (by decide) (by decide) hB hv1 hl1 bel1 kept1 own1 own2 grow2
                have HV := Lib.hid FX
                clear FX
                have c2a := HV.out.b3.cell
                have f2a := HV.out.b3.frozen
                have c2b := HV.out.b4.cell
                have f2b := HV.out.b4.frozen
                have bx2 := heap_grow own1 grow2 (by decide) bx1
                have hBne : Bx ≠ w.heap.size := by omega
                have cx2 : (w2.setCell ⟨w.heap.size, 0, none⟩ (.slice (some ⟨g2, 0, none⟩) (S.length + (Lib.decDigits Q).length + wd.length) cap2)).cell? ⟨Bx, 1, none⟩ = some (.int .u64 (z : Int)) := by rw [show (World.setCell w2 _ _).cell? ⟨Bx, 1, none⟩ = w2.cell? ⟨Bx, 1, none⟩ from World.cell?_of_block (a := ⟨Bx, 1, none⟩) (Below.heap_setCell w2 _ _ Bx hBne)]; simp [World.cell?, show w2.heap[Bx]? = _ from bx2]
                clear own1 own2 grow2 bel1 kept1 hl1
                refine wpAnyIn_ready (rs := [5]) (by kernel_rfl) (by simp) ?_
                refine AllReadyIn.cons rfl (fun K hK => ?_) ?_
                · rw [if_pos (by rfl)]
                  refine oper_append_string (.tmp 27) (.tmp 29) 56 9 rfl rfl rfl hrun ?_
                  refine hK _ _ ?_
                  clear hK K
                  (try simp only [Act.put, List.setIfInBounds_toArray, List.set_cons_zero, List.set_cons_succ])
                  refine wpAnyIn_ready (rs := [6]) (by kernel_rfl) (by simp) ?_
                  refine AllReadyIn.cons rfl (fun K hK => ?_) ?_
                  · go_simp
                    refine hK _ _ ?_
                    clear hK K
                    (try simp only [Act.put, List.setIfInBounds_toArray, List.set_cons_zero, List.set_cons_succ])
                    refine wpAnyIn_done (by kernel_rfl) ?_ _
                    gi_wp2
                    refine ⟨?_, ?_, ?_⟩
                    · exact ((HV.out.ko.trans (KeepsOthers.setCell _ _ _)).trans (KeepsOthers.setCell _ _ _)).from _
                    · exact (HV.out.kw.trans (KeepsWalks.setCell _ _ _)).trans (KeepsWalks.setCell _ _ _)
                    · dsimp only
                      rw [SN.out, if_pos hQ0]
                      exact ⟨⟨_, (HV.out.b3.set _).other (by omega) _, ownsRow_setCell_below (ownsRow_setCell_below HV.out.own (by simp) _) (by simp) _, trivial⟩, (HV.out.b4.other (by omega) _).set _, (HV.out.bel.setCell (by simp) _).setCell (by simp) _⟩
                  exact AllReadyIn.nil
                exact AllReadyIn.nil
              exact AllReadyIn.nil
            exact AllReadyIn.nil
          refine AllReadyIn.cons rfl (fun K hK => ?_) ?_
          · go_simp
            refine hK _ _ ?_
            clear hK K
            (try simp only [Act.put, List.setIfInBounds_toArray, List.set_cons_zero, List.set_cons_succ])
            refine wpAnyIn_ready (rs := [0]) (by kernel_rfl) (by simp) ?_
            refine AllReadyIn.cons rfl (fun K hK => ?_) ?_
            · go_simp
              refine hK _ _ ?_
              clear hK K
              (try simp only [Act.put, List.setIfInBounds_toArray, List.set_cons_zero, List.set_cons_succ])
              refine wpAnyIn_ready (rs := [2]) (by kernel_rfl) (by simp) ?_
              refine AllReadyIn.cons rfl (fun K hK => ?_) ?_
              · go_simp
                refine ⟨trivial, ?_⟩
                gi_at_call 31
                refine (CallsIn.inRound l (callsIn_wide.2 (AU.out W.drew hrow hszW (ht.below (Below.drew hB))))).mono ?_
                rintro e w1 ⟨v1, rfl, own1, bel1, kept1⟩
                (try go_simp)
                (try (refine hK _ _ ?_; clear hK K))
                (try simp only [Act.put, List.setIfInBounds_toArray, List.set_cons_zero, List.set_cons_succ])
                have hv1 := boxed_others kept1 (w := W.drew) hv (by decide)
                have hl1 := boxed_others kept1 (w := W.drew) hleft (by decide)
                have bx1 : Blk w1 Bx _ _ := kept1 Bx _ bX (by simp) (fun c fz e' => by simp at e')
                have cx0 : w1.cell? ⟨Bx, 0, none⟩ = some (.string ⟨wd.toArray⟩) := by simp [World.cell?, show w1.heap[Bx]? = _ from bx1]
                have cx1 : w1.cell? ⟨Bx, 1, none⟩ = some (.int .u64 (z : Int)) := by simp [World.cell?, show w1.heap[Bx]? = _ from bx1]
                obtain ⟨v2, w2, hrun, own2, grow2, -⟩ := Lib.run_append_own_string (P := Tryd.prog) w1 (w.heap.size + 2) 56 9 56 5 i0 Tryd.underlying56 Tryd.underlying9 HI.out HZ.out HZ1.out HZ2.out v1 _ _ own1 ⟨wd.toArray⟩ (by unfold maxLen; have := decLen Q (by omega); have e0 : (⟨wd.toArray⟩ : ByteArray).size = wd.length := rfl; omega) (by have := decLen Q (by omega); have e0 : (⟨wd.toArray⟩ : ByteArray).size = wd.length := rfl; omega) (by have := hl1.lt; omega)
                obtain ⟨g2, cap2, rfl⟩ := own_some own2 (by have := decPos Q; omega)
                have FX := fin_world (wd := wd) (by decide) (by decide) hB hv1 hl1 bel1 kept1 own1 own2 grow2
                have HV := Lib.hid FX
                clear FX
                have c2a := HV.out.b3.cell
                have f2a := HV.out.b3.frozen
                have c2b := HV.out.b4.cell
                have f2b := HV.out.b4.frozen
                have bx2 := heap_grow own1 grow2 (by decide) bx1
                have hBne : Bx ≠ w.heap.size := by omega
                have cx2 : (w2.setCell ⟨w.heap.size, 0, none⟩ (.slice (some ⟨g2, 0, none⟩) (S.length + (Lib.decDigits Q).length + wd.length) cap2)).cell? ⟨Bx, 1, none⟩ = some (.int .u64 (z : Int)) := by rw [show (World.setCell w2 _ _).cell? ⟨Bx, 1, none⟩ = w2.cell? ⟨Bx, 1, none⟩ from World.cell?_of_block (a := ⟨Bx, 1, none⟩) (Below.heap_setCell w2 _ _ Bx hBne)]; simp [World.cell?, show w2.heap[Bx]? = _ from bx2]
                clear own1 own2 grow2 bel1 kept1 hl1
                refine wpAnyIn_ready (rs := [5]) (by kernel_rfl) (by simp) ?_
                refine AllReadyIn.cons rfl (fun K hK => ?_) ?_
                · rw [if_pos (by rfl)]
                  refine oper_append_string (.tmp 27) (.tmp 29) 56 9 rfl rfl rfl hrun ?_
                  refine hK _ _ ?_
                  clear hK K
                  (try simp only [Act.put, List.setIfInBounds_toArray, List.set_cons_zero, List.set_cons_succ])
                  refine wpAnyIn_ready (rs := [6]) (by kernel_rfl) (by simp) ?_
                  refine AllReadyIn.cons rfl (fun K hK => ?_) ?_
                  · go_simp
                    refine hK _ _ ?_
                    clear hK K
                    (try simp only [Act.put, List.setIfInBounds_toArray, List.set_cons_zero, List.set_cons_succ])
                    refine wpAnyIn_done (by kernel_rfl) ?_ _
                    gi_wp2
                    refine ⟨?_, ?_, ?_⟩
                    · exact ((HV.out.ko.trans (KeepsOthers.setCell _ _ _)).trans (KeepsOthers.setCell _ _ _)).from _
                    · exact (HV.out.kw.trans (KeepsWalks.setCell _ _ _)).trans (KeepsWalks.setCell _ _ _)
                    · dsimp only
                      rw [SN.out, if_pos hQ0]
                      exact ⟨⟨_, (HV.out.b3.set _).other (by omega) _, ownsRow_setCell_below (ownsRow_setCell_below HV.out.own (by simp) _) (by simp) _, trivial⟩, (HV.out.b4.other (by omega) _).set _, (HV.out.bel.setCell (by simp) _).setCell (by simp) _⟩
                  exact AllReadyIn.nil
                exact AllReadyIn.nil
              exact AllReadyIn.nil
            exact AllReadyIn.nil
          exact AllReadyIn.nil
        refine AllReadyIn.cons rfl (fun K hK => ?_) ?_
        · go_simp
          refine hK _ _ ?_
          clear hK K
          (try simp only [Act.put, List.setIfInBounds_toArray, List.set_cons_zero, List.set_cons_succ])
          refine wpAnyIn_ready (rs := [0, 1]) (by kernel_rfl) (by simp) ?_
          refine AllReadyIn.cons rfl (fun K hK => ?_) ?_
          · go_simp
            refine hK _ _ ?_
            clear hK K
            (try simp only [Act.put, List.setIfInBounds_toArray, List.set_cons_zero, List.set_cons_succ])
            refine wpAnyIn_ready (rs := [1]) (by kernel_rfl) (by simp) ?_
            refine AllReadyIn.cons rfl (fun K hK => ?_) ?_
            · go_simp
              refine hK _ _ ?_
              clear hK K
              (try simp only [Act.put, List.setIfInBounds_toArray, List.set_cons_zero, List.set_cons_succ])
              refine wpAnyIn_ready (rs := [2]) (by kernel_rfl) (by simp) ?_
              refine AllReadyIn.cons rfl (fun K hK => ?_) ?_
              · go_simp
                refine ⟨trivial, ?_⟩
                gi_at_call 31
                refine (CallsIn.inRound l (callsIn_wide.2 (AU.out W.drew hrow hszW (ht.below (Below.drew hB))))).mono ?_
                rintro e w1 ⟨v1, rfl, own1, bel1, kept1⟩
                (try go_simp)
                (try (refine hK _ _ ?_; clear hK K))
                (try simp only [Act.put, List.setIfInBounds_toArray, List.set_cons_zero, List.set_cons_succ])
                have hv1 := boxed_others kept1 (w := W.drew) hv (by decide)
                have hl1 := boxed_others kept1 (w := W.drew) hleft (by decide)
                have bx1 : Blk w1 Bx _ _ := kept1 Bx _ bX (by simp) (fun c fz e' => by simp at e')
                have cx0 : w1.cell? ⟨Bx, 0, none⟩ = some (.string ⟨wd.toArray⟩) := by simp [World.cell?, show w1.heap[Bx]? = _ from bx1]
                have cx1 : w1.cell? ⟨Bx, 1, none⟩ = some (.int .u64 (z : Int)) := by simp [World.cell?, show w1.heap[Bx]? = _ from bx1]
                obtain ⟨v2, w2, hrun, own2, grow2, -⟩ := Lib.run_append_own_string (P := Tryd.prog) w1 (w.heap.size + 2) 56 9 56 5 i0 Tryd.underlying56 Tryd.underlying9 HI.out HZ.out HZ1.out HZ2.out v1 _ _ own1 ⟨wd.toArray⟩ (by unfold maxLen; have := decLen Q (by omega); have e0 : (⟨wd.toArray⟩ : ByteArray).size = wd.length := rfl; omega) (by have := decLen Q (by omega); have e0 : (⟨wd.toArray⟩ : ByteArray).size = wd.length := rfl; omega) (by have := hl1.lt; omega)
                obtain ⟨g2, cap2, rfl⟩ := own_some own2 (by have := decPos Q; omega)
                have FX := fin_world (wd := wd) (by decide) (by decide) hB hv1 hl1 bel1 kept1 own1 own2 grow2
                have HV := Lib.hid FX
                clear FX
                have c2a := HV.out.b3.cell
                have f2a := HV.out.b3.frozen
                have c2b := HV.out.b4.cell
                have f2b := HV.out.b4.frozen
                have bx2 := heap_grow own1 grow2 (by decide) bx1
                have hBne : Bx ≠ w.heap.size := by omega
                have cx2 : (w2.setCell ⟨w.heap.size, 0, none⟩ (.slice (some ⟨g2, 0, none⟩) (S.length + (Lib.decDigits Q).length + wd.length) cap2)).cell? ⟨Bx, 1, none⟩ = some (.int .u64 (z : Int)) := by rw [show (World.setCell w2 _ _).cell? ⟨Bx, 1, none⟩ = w2.cell? ⟨Bx, 1, none⟩ from World.cell?_of_block (a := ⟨Bx, 1, none⟩) (Below.heap_setCell w2 _ _ Bx hBne)]; simp [World.cell?, show w2.heap[Bx]? = _ from bx2]
                clear own1 own2 grow2 bel1 kept1 hl1
                refine wpAnyIn_ready (rs := [5]) (by kernel_rfl) (by simp) ?_
                refine AllReadyIn.cons rfl (fun K hK => ?_) ?_
                · rw [if_pos (by rfl)]
                  refine oper_append_string (.tmp 27) (.tmp 29) 56 9 rfl rfl rfl hrun ?_
                  refine hK _ _ ?_
                  clear hK K
                  (try simp only [Act.put, List.setIfInBounds_toArray, List.set_cons_zero, List.set_cons_succ])
                  refine wpAnyIn_ready (rs := [6]) (by kernel_rfl) (by simp) ?_
                  refine AllReadyIn.cons rfl (fun K hK => ?_) ?_
                  · go_simp
                    refine hK _ _ ?_
                    clear hK K
                    (try simp only [Act.put, List.setIfInBounds_toArray, List.set_cons_zero, List.set_cons_succ])
                    refine wpAnyIn_done (by kernel_rfl) ?_ _
                    gi_wp2
                    refine ⟨?_, ?_, ?_⟩
                    · exact ((HV.out.ko.trans (KeepsOthers.setCell _ _ _)).trans (KeepsOthers.setCell _ _ _)).from _
                    · exact (HV.out.kw.trans (KeepsWalks.setCell _ _ _)).trans (KeepsWalks.setCell _ _ _)
                    · dsimp only
                      rw [SN.out, if_pos hQ0]
                      exact ⟨⟨_, (HV.out.b3.set _).other (by omega) _, ownsRow_setCell_below (ownsRow_setCell_below HV.out.own (by simp) _) (by simp) _, trivial⟩, (HV.out.b4.other (by omega) _).set _, (HV.out.bel.setCell (by simp) _).setCell (by simp) _⟩
                  exact AllReadyIn.nil
                exact AllReadyIn.nil
              exact AllReadyIn.nil
            exact AllReadyIn.nil
          refine AllReadyIn.cons rfl (fun K hK => ?_) ?_
          · go_simp
            refine hK _ _ ?_
            clear hK K
            (try simp only [Act.put, List.setIfInBounds_toArray, List.set_cons_zero, List.set_cons_succ])
            refine wpAnyIn_ready (rs := [0]) (by kernel_rfl) (by simp) ?_
            refine AllReadyIn.cons rfl (fun K hK => ?_) ?_
            · go_simp
              refine hK _ _ ?_
              clear hK K
              (try simp only [Act.put, List.setIfInBounds_toArray, List.set_cons_zero, List.set_cons_succ])
              refine wpAnyIn_ready (rs := [2]) (by kernel_rfl) (by simp) ?_
              refine AllReadyIn.cons rfl (fun K hK => ?_) ?_
              · go_simp
                refine ⟨trivial, ?_⟩
                gi_at_call 31
                refine (CallsIn.inRound l (callsIn_wide.2 (AU.out W.drew hrow hszW (ht.below (Below.drew hB))))).mono ?_
                rintro e w1 ⟨v1, rfl, own1, bel1, kept1⟩
                (try go_simp)
                (try (refine hK _ _ ?_; clear hK K))
                (try simp only [Act.put, List.setIfInBounds_toArray, List.set_cons_zero, List.set_cons_succ])
                have hv1 := boxed_others kept1 (w := W.drew) hv (by decide)
                have hl1 := boxed_others kept1 (w := W.drew) hleft (by decide)
                have bx1 : Blk w1 Bx _ _ := kept1 Bx _ bX (by simp) (fun c fz e' => by simp at e')
                have cx0 : w1.cell? ⟨Bx, 0, none⟩ = some (.string ⟨wd.toArray⟩) := by simp [World.cell?, show w1.heap[Bx]? = _ from bx1]
                have cx1 : w1.cell? ⟨Bx, 1, none⟩ = some (.int .u64 (z : Int)) := by simp [World.cell?, show w1.heap[Bx]? = _ from bx1]
                obtain ⟨v2, w2, hrun, own2, grow2, -⟩ := Lib.run_append_own_string (P := Tryd.prog) w1 (w.heap.size + 2) 56 9 56 5 i0 Tryd.underlying56 Tryd.underlying9 HI.out HZ.out HZ1.out HZ2.out v1 _ _ own1 ⟨wd.toArray⟩ (by unfold maxLen; have := decLen Q (by omega); have e0 : (⟨wd.toArray⟩ : ByteArray).size = wd.length := rfl; omega) (by have := decLen Q (by omega); have e0 : (⟨wd.toArray⟩ : ByteArray).size = wd.length := rfl; omega) (by have := hl1.lt; omega)
                obtain ⟨g2, cap2, rfl⟩ := own_some own2 (by have := decPos Q; omega)
                have FX := fin_world (wd := wd) (by decide) (by decide) hB hv1 hl1 bel1 kept1 own1 own2 grow2
                have HV := Lib.hid FX
                clear FX
                have c2a := HV.out.b3.cell
                have f2a := HV.out.b3.frozen
                have c2b := HV.out.b4.cell
                have f2b := HV.out.b4.frozen
                have bx2 := heap_grow own1 grow2 (by decide) bx1
                have hBne : Bx ≠ w.heap.size := by omega
                have cx2 : (w2.setCell ⟨w.heap.size, 0, none⟩ (.slice (some ⟨g2, 0, none⟩) (S.length + (Lib.decDigits Q).length + wd.length) cap2)).cell? ⟨Bx, 1, none⟩ = some (.int .u64 (z : Int)) := by rw [show (World.setCell w2 _ _).cell? ⟨Bx, 1, none⟩ = w2.cell? ⟨Bx, 1, none⟩ from World.cell?_of_block (a := ⟨Bx, 1, none⟩) (Below.heap_setCell w2 _ _ Bx hBne)]; simp [World.cell?, show w2.heap[Bx]? = _ from bx2]
                clear own1 own2 grow2 bel1 kept1 hl1
                refine wpAnyIn_ready (rs := [5]) (by kernel_rfl) (by simp) ?_
                refine AllReadyIn.cons rfl (fun K hK => ?_) ?_
                · rw [if_pos (by rfl)]
                  refine oper_append_string (.tmp 27) (.tmp 29) 56 9 rfl rfl rfl hrun ?_
                  refine hK _ _ ?_
                  clear hK K
                  (try simp only [Act.put, List.setIfInBounds_toArray, List.set_cons_zero, List.set_cons_succ])
                  refine wpAnyIn_ready (rs := [6]) (by kernel_rfl) (by simp) ?_
                  refine AllReadyIn.cons rfl (fun K hK => ?_) ?_
                  · go_simp
                    refine hK _ _ ?_
                    clear hK K
                    (try simp only [Act.put, List.setIfInBounds_toArray, List.set_cons_zero, List.set_cons_succ])
                    refine wpAnyIn_done (by kernel_rfl) ?_ _
                    gi_wp2
                    refine ⟨?_, ?_, ?_⟩
                    · exact ((HV.out.ko.trans (KeepsOthers.setCell _ _ _)).trans (KeepsOthers.setCell _ _ _)).from _
                    · exact (HV.out.kw.trans (KeepsWalks.setCell _ _ _)).trans (KeepsWalks.setCell _ _ _)
                    · dsimp only
                      rw [SN.out, if_pos hQ0]
                      exact ⟨⟨_, (HV.out.b3.set _).other (by omega) _, ownsRow_setCell_below (ownsRow_setCell_below HV.out.own (by simp) _) (by simp) _, trivial⟩, (HV.out.b4.other (by omega) _).set _, (HV.out.bel.setCell (by simp) _).setCell (by simp) _⟩
                  exact AllReadyIn.nil
                exact AllReadyIn.nil
              exact AllReadyIn.nil
            exact AllReadyIn.nil
          exact AllReadyIn.nil
        exact AllReadyIn.nil
      exact AllReadyIn.nil
    · have d1 : decide (0 < Q) = false := by simpa using hQ0
      obtain rfl : Q = 0 := by omega
      gi_wp2
      refine ⟨(KeepsOthers.setCell _ _ _).from _, KeepsWalks.setCell _ _ _, ?_⟩
      dsimp only
      rw [SN.out]
      exact ⟨⟨v, hv.other (by omega) _, ownsRow_setCell_below hrow (by simp) _, trivial⟩, hleft.set _, hB.setCell (by simp) _⟩
  case done =>
    rintro D ys W hD rfl ⟨⟨v, hv, hrow, _⟩, hleft, hB⟩ hK
    have c3 := hv.cell
    have f3 := hv.frozen
    have hC := str_of_row (P := Tryd.prog) (src := 56) (dst := 9) hrow Tryd.underlying56 Tryd.underlying5 Tryd.underlying9
    gi_wp2
    refine ⟨by simp, .inl ⟨_, _, rfl, run_takeDeferred hK, ?_⟩⟩
    exact ⟨_, results_tmp rfl _ _ _, rfl, hB.trans (belowK_b (w := w) (Nat.le_refl _) W D _ _ (by rw [hsz] at hD; omega) hK rfl rfl)⟩
  case stop =>
    rintro D c pre W _ _ h _
    exact h.elim
theorem text_zero (w : World) :
    Calls Tryd.prog 21 #[.int .i64 0] w fun e w' => e = .returned (.string ⟨#[48]⟩) ∧ Below w.heap.size w w' := by
  go_enter Tryd.func21, Tryd.ntmps21
  go_wp2
  refine bodyPost_ret (results_tmp rfl _ _ _) rfl ?_
  exact ⟨rfl, Below.refl _ _⟩
/-- what Text answers for a time that is not below 0 -/
def textR (d : Nat) : List UInt8 := if d = 0 then [48] else (tRun d [0, 1, 2, 3, 4]).1
theorem text_any (d : Nat) (hd : d < 9223372036854775808) (w : World) (ht : Tab w) :
    Calls Tryd.prog 21 #[.int .i64 (d : Int)] w fun e w' => e = .returned (.string ⟨(textR d).toArray⟩) ∧ Below w.heap.size w w' := by
  unfold textR
  by_cases h : d = 0
  · subst h; exact text_zero w
  · rw [if_neg h]; exact text_pos d (by omega) hd w ht
end Go.Proofs.YtmiahbaadlddjaaDoor
