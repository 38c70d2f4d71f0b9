/- store: Put. -/
import Derived.Test.YtedcdhngiofpjaaGreatDoorTc1
import Derived.Test.YtedcdhngiofpjaaGreatDoorSm
import Derived.Test.YtedcdhngiofpjaaGreatDoorOs
namespace Go.Proofs.YtedcdhngiofpjaaGreatDoor
open Go Go.Proofs Go.RowKit Go.Shelf
set_option maxRecDepth 100000
attribute [local go_sem] cell_set Oper.semAt_some
def putC (g : Int) (C : List Con) (zs : List SLab) (x : Nm) : List Con :=
  match getL C (textL zs) with
  | some (ls, ps) => putL ltS C (textL zs) (ls, putL ltI ps (endR g x.t) ((getL ps (endR g x.t)).getD [] ++ [x]))
  | none => putL ltS C (textL zs) (zs, [(endR g x.t, [x])])
/-- what lies in memory while Put goes -/
structure PtS (S : Sto) (lv : Value) (zs : List SLab) (x : Nm) (n0 : Nat) (w u : World) : Prop where
  X : At u n0 [lv, .int .i64 x.v, .int .i64 x.t, .int .i64 x.s, .int .i64 x.q]
  st : StAt u S
  L : Labs u.heap.size u lv zs
  B : w.heap.size ≤ u.heap.size
theorem PtS.drew {S : Sto} {lv : Value} {zs : List SLab} {x : Nm} {n0 : Nat} {w u : World} (h : PtS S lv zs x n0 w u) : PtS S lv zs x n0 w u.drew := ⟨h.X.drew, h.st.keep (fun _ _ => rfl), h.L, h.B⟩
theorem PtS.below {S : Sto} {lv : Value} {zs : List SLab} {x : Nm} {n0 : Nat} {w u u' : World} (h : PtS S lv zs x n0 w u) (hb : Below u.heap.size u u') : PtS S lv zs x n0 w u' := ⟨h.X.below hb, h.st.below hb, labs_on h.L hb, Nat.le_trans h.B hb.size⟩
theorem at_turn14 {O : List Nat} {w w' : World} {b : Nat} {l : List Value} (h : At w b l) (t : Turn O w w') (hb : b ∉ O) : At w' b l := by
  have e := t.block b h.lt hb
  exact ⟨Nat.lt_of_lt_of_le h.lt t.size, fun j v hv => (World.cell?_of_block (a := ⟨b, j, none⟩) e).trans (h.cell j v hv), fun j v hv => (World.frozen?_of_block (a := ⟨b, j, none⟩) e).trans (h.free j v hv)⟩
/-- the same while a pane is turned -/
structure PtR (lv : Value) (x : Nm) (n0 pb : Nat) (C : Array Value) (u : World) : Prop where
  X : At u n0 [lv, .int .i64 x.v, .int .i64 x.t, .int .i64 x.s, .int .i64 x.q]
  C : u.heap[pb]? = some (.cells C TC (0, 0))
theorem PtR.drew {lv : Value} {x : Nm} {n0 pb : Nat} {C : Array Value} {u : World} (h : PtR lv x n0 pb C u) : PtR lv x n0 pb C u.drew := ⟨h.X.drew, h.C⟩
theorem PtR.below {lv : Value} {x : Nm} {n0 pb : Nat} {C : Array Value} {u u' : World} (h : PtR lv x n0 pb C u) (hb : Below u.heap.size u u') : PtR lv x n0 pb C u' := ⟨h.X.below hb, (hb.block pb (Array.getElem?_eq_some_iff.1 h.C).1).trans h.C⟩
theorem samp_bounds {zs : List SLab} {t s q : Int} (h : sampR zs t s q = 0) : checkR zs = 0 ∧ zs ≠ [] ∧ 0 ≤ t ∧ t ≤ 4398046511104 := by
  unfold sampR at h
  split at h
  · rename_i h1; exact absurd h h1
  · rename_i h1
    split at h
    · cases h
    · rename_i h2
      split at h
      · rename_i h3; exact absurd h h3
      · rename_i h3
        have h4 : timeR t = 0 := by simpa using h3
        unfold timeR at h4
        split at h4
        · cases h4
        · rename_i h5
          exact ⟨by simpa using h1, fun e => h2 (by rw [e]; rfl), by omega, by omega⟩
/-- one pane turned -/
theorem pane_set {w w' : World} {s : Sr} {A B : List (Int × Pa)} {k : Int} {p : Pa} {L : List Nm} (h : SerAt w s) (hp : s.ps = A ++ (k, p) :: B) (ht : Turn [p.blk] w w') (hc : w'.heap[p.blk]? = some (.cells (clC L) TC (0, 0))) (hi : ∀ x ∈ L, I64 x.v) (hl : L.length ≤ 100) :
    SerAt w' { s with ps := A ++ (k, ⟨p.blk, L⟩) :: B } := by
  have hm : (k, p) ∈ s.ps := by rw [hp]; simp
  obtain ⟨n1, n2⟩ := h.cell_not _ hm
  have hsub : ∀ e, e ∈ A ∨ e ∈ B → e ∈ s.ps := fun e q => by rw [hp]; rcases q with q | q <;> simp [q]
  have hd := h.dis
  rw [hp, List.map_append, List.map_cons] at hd
  obtain ⟨e1, e2, e3⟩ := List.nodup_append.1 hd
  obtain ⟨e4, e5⟩ := List.nodup_cons.1 e2
  have hne : ∀ e, e ∈ A ∨ e ∈ B → e.2.blk ≠ p.blk := fun e q r => by
    rcases q with q | q
    · exact e3 e.2.blk (List.mem_map.2 ⟨e, q, rfl⟩) p.blk (by simp) r
    · exact e4 (List.mem_map.2 ⟨e, q, r⟩)
  have hents : entsI (A ++ (k, ⟨p.blk, L⟩) :: B) = entsI s.ps := by rw [hp]; simp [entsI]
  have hsr := h.srt
  rw [hp] at hsr
  refine ⟨ht.at (fun q => n1 (List.mem_singleton.1 q).symm) h.blk, row_keep14 h.lab (fun b hb => ht.block b (h.lab_lt b hb) (fun q => ?_)), ?_, fun e he => ?_, ?_, ?_, fun e he => ?_, ?_⟩
  · refine h.lab_not h b hb ?_
    rw [List.mem_singleton.1 q]
    simp only [Sr.own, List.mem_cons, List.mem_append, List.mem_map]
    exact .inr (.inr ⟨_, hm, rfl⟩)
  · show MapI w' s.pv (entsI (A ++ (k, ⟨p.blk, L⟩) :: B)) s.O
    rw [hents]
    exact h.map.turn ht (fun b hb q => n2 (List.mem_singleton.1 q ▸ hb))
  · rcases List.mem_append.1 he with q | q
    · exact ht.at (fun r => hne e (.inl q) (List.mem_singleton.1 r)) (h.cells e (hsub e (.inl q)))
    · rcases List.mem_cons.1 q with rfl | q
      · exact hc
      · exact ht.at (fun r => hne e (.inr q) (List.mem_singleton.1 r)) (h.cells e (hsub e (.inr q)))
  · obtain ⟨h1, h2, h3⟩ := List.pairwise_append.1 hsr
    obtain ⟨h4, h5⟩ := List.pairwise_cons.1 h2
    exact List.pairwise_append.2 ⟨h1, List.pairwise_cons.2 ⟨h4, h5⟩, fun a ha b hb => by
      rcases List.mem_cons.1 hb with rfl | hb
      · exact h3 a ha (k, p) (by simp)
      · exact h3 a ha b (by simp [hb])⟩
  · have := h.len
    rw [hp] at this
    simpa using this
  · rcases List.mem_append.1 he with q | q
    · exact h.ok e (hsub e (.inl q))
    · rcases List.mem_cons.1 q with rfl | q
      · have := h.ok _ hm
        exact ⟨hi, hl, this.k0, this.k1⟩
      · exact h.ok e (hsub e (.inr q))
  · show (List.map (fun e : Int × Pa => e.2.blk) (A ++ (k, ⟨p.blk, L⟩) :: B)).Nodup
    rw [List.map_append, List.map_cons]
    exact hd
def TailP (S : Sto) (s : Sr) (A B : List (List UInt8 × Sr)) (k : List UInt8) (x : Nm) (w w' : World) : Prop :=
  ∃ s7 : Sr, StAt w' { S with ss := A ++ (k, s7) :: B, n := S.n + 1 } ∧ s7.ls = s.ls ∧ s7.lv = s.lv ∧ conP s7.ps = putL ltI (conP s.ps) (endR S.grid x.t) ((getL (conP s.ps) (endR S.grid x.t)).getD [] ++ [x]) ∧ Turn S.own w w' ∧ New S.own ({ S with ss := A ++ (k, s7) :: B } : Sto).own w
theorem con_get (ss : List (List UInt8 × Sr)) (k : List UInt8) : getL (ss.map con) k = (getL ss k).map fun s => (s.ls, conP s.ps) := by
  unfold getL
  rw [List.find?_map]
  cases h : List.find? ((fun e : Con => decide (e.1 = k)) ∘ con) ss with
  | none =>
    have : List.find? (fun e : List UInt8 × Sr => decide (e.1 = k)) ss = none := h
    rw [this]; rfl
  | some y =>
    have : List.find? (fun e : List UInt8 × Sr => decide (e.1 = k)) ss = some y := h
    rw [this]; rfl
theorem con_lo (ss : List (List UInt8 × Sr)) (k : List UInt8) : (loL ltS ss k).map con = loL ltS (ss.map con) k ∧ (hiL ltS ss k).map con = hiL ltS (ss.map con) k := by
  unfold loL hiL
  rw [List.filter_map, List.filter_map]
  exact ⟨rfl, rfl⟩
/-- what Put leaves -/
def PutP (S : Sto) (zs : List SLab) (x : Nm) (w : World) (e : Ending) (w' : World) : Prop :=
  e = .returned (.int .i64 0) ∧ ∃ S' : Sto, StAt w' S' ∧ S'.b = S.b ∧ S'.grid = S.grid ∧ S'.n = S.n + 1 ∧ S'.ss.map con = putC S.grid (S.ss.map con) zs x ∧ Turn S.own w w' ∧ New S.own S'.own w ∧ ∀ e ∈ S'.ss, ∀ b, e.2.lv.ownBlock = some b → (∃ e' ∈ S.ss, e'.2.lv.ownBlock = some b) ∨ w.heap.size ≤ b
set_option maxHeartbeats 8000000 in
theorem put_old (S : Sto) (hg : 1 ≤ S.grid) (hg2 : S.grid ≤ 4398046511104) (a : Option Addr) (n cap : Nat) (zs : List SLab) (x : Nm) (hx : I64 x.v) (hz : zs.length ≤ 100) (hn0 : 0 ≤ S.n ∧ S.n ≤ 1000000) (hs : sampR zs x.t x.s x.q = 0) (s : Sr) (hgs : getL S.ss (textL zs) = some s) (hln : ∀ e ∈ S.ss, e.2.ps.length < 100 ∧ ∀ p ∈ e.2.ps, p.2.L.length < 100) (w : World) (h : StAt w S) (hI : Labs w.heap.size w (.slice a n cap) zs) :
    Calls Tryz.prog 11 #[.pointer (some ⟨S.b, 0, none⟩), .agg #[.slice a n cap, .int .i64 x.v, .int .i64 x.t, .int .i64 x.s, .int .i64 x.q]] w (PutP S zs x w) := by
  obtain ⟨b1, b2, b3, b4⟩ := samp_bounds hs
  have hend := end_bounds hg hg2 b3 b4
  have hms : (textL zs, s) ∈ S.ss := by
    rcases cut_at14 stoS S.ss (textL zs) h.srt with ⟨v, q1, q2⟩ | ⟨q1, _⟩
    · rw [hgs] at q1
      obtain rfl : s = v := by simpa using q1
      rw [q2]; simp
    · rw [hgs] at q1; cases q1
  have hHE := Lib.hid (fun W (hW : StAt W S) => end_any14 S hg hg2 x.t b3 b4 W hW)
  have hHP := Lib.hid (fun W (hW : SerAt W s) => pane_at s (endR S.grid x.t) hend.1 hend.2.1 W hW (hln _ hms).1)
  obtain ⟨W1, hW1⟩ : ∃ W1, W1 = w.alloc (.cells #[.slice a n cap, .int .i64 x.v, .int .i64 x.t, .int .i64 x.s, .int .i64 x.q] 33) := ⟨_, rfl⟩
  have hb1 : Below w.heap.size w W1 := by rw [hW1]; exact below_cells _
  have X1 : At W1 w.heap.size [.slice a n cap, .int .i64 x.v, .int .i64 x.t, .int .i64 x.s, .int .i64 x.q] := by rw [hW1]; exact At.new w _ _
  have HCh := Lib.hid (lcheck_any a n cap zs hz x.v x.t x.s x.q W1 (labs_on hI hb1))
  unfold sampV at HCh
  have xf := X1.f5
  refine (callsIn_wide (n := 9)).1 ?_
  refine callsIn_of_wp Tryz.func11 rfl trivial ?_ rfl
  simp only [Tryz.ntmps11, List.size_toArray, List.length_cons, List.length_nil, Nat.reduceAdd, Nat.reduceSub, Array.replicate_succ, Array.replicate_zero, List.push_toArray, List.append_toArray, List.nil_append, List.cons_append]
  gi_wp2_with fail
  rw [← hW1] at *
  refine ⟨trivial, (callsIn_wide.2 HCh.out).mono ?_⟩
  rw [hs]
  rintro e w2 ⟨rfl, hb2⟩
  have P2 : PtS S (.slice a n cap) zs x w.heap.size w w2 := ⟨X1.below hb2, (h.below hb1).below hb2, labs_on (labs_on hI hb1) hb2, Nat.le_trans hb1.size hb2.size⟩
  have HT := Lib.hid (fun W (hW : Labs W.heap.size W (.slice a n cap) zs) => ltext_any a n cap zs hz W hW)
  have HA := Lib.hid (fun W (hW : StAt W S) => ser_at_old W hW hgs)
  have T2 := Lib.hid (show Turn [] w w2 from (Turn.of_below hb1 []).then_below hb2)
  clear xf HCh hI hW1 X1 hb1 hb2
  gi_wp2_with fail
  refine region_anyM (S := PtS S (.slice a n cap) zs x w.heap.size w) 7 (by kernel_rfl) (fun hS => ?_) P2.drew
  clear P2
  refine anyM_d 0 [0, 7] hS ?_
  refine anyM_d 1 [1, 7] hS ?_
  refine anyM_d 2 [2, 7] hS ?_
  refine anyM_d 3 [3, 7] hS ?_
  refine anyM_c 4 [4, 7] hS (fun u h => h.X.f5) ?_
  refine anyM_o 5 (fun K hK => ?_)
  go_simp
  refine ⟨trivial, ?_⟩
  refine (callsIn_wide.2 (HT.out _ hS.L)).mono ?_
  rintro e w3 ⟨rfl, hb3⟩
  have hM1 := hS.below hb3
  have T3 := Lib.hid (T2.out.drew.then_below hb3)
  dsimp only
  refine hK _ _ hM1 ?_
  clear hS
  have hS := hM1
  clear hM1 hK K hb3 T2
  refine anyM_o 6 (fun K hK => ?_)
  go_simp
  refine ⟨trivial, ?_⟩
  refine (callsIn_wide.2 (HA.out _ hS.st)).mono ?_
  rintro e w4 ⟨rfl, hb4⟩
  have hM1 := hS.below hb4
  have T4 := Lib.hid (T3.out.then_below hb4)
  dsimp only
  refine hK _ _ hM1 ?_
  clear hS
  have hS := hM1
  clear hM1 hK K hb4 T3
  refine anyM_l (fun K hK => ?_)
  go_simp
  refine hK _ _ ?_
  clear hK K
  refine anyIn_done (by kernel_rfl) ?_ _
  have hser := hS.st.ser _ hms
  obtain ⟨lg, lc, hlv⟩ : ∃ lg lc, s.lv = .slice (some ⟨lg, 0, none⟩) s.ls.length lc := by
    rcases hser.lab.2 with ⟨_, h0⟩ | ⟨g, c, cur, q, _⟩
    · have := (hS.st.key _ hms).2.2
      exact absurd (List.eq_nil_of_length_eq_zero h0) this
    · exact ⟨g, c, q⟩
  have hb0 := hser.blk
  rw [hlv] at hb0
  have l1 := (cell_of_row w4 s.sb 0 _ _ _ hb0).trans (show _ = some (Value.slice (some ⟨lg, 0, none⟩) s.ls.length lc) from rfl)
  have q22 : ∀ (w : World) (a : Option Addr) (n c n' c' : Nat), (binOp .eql 24 (.slice a n c) (.slice none n' c')).run Tryz.prog w = .ok (.bool a.isNone) w := fun w a n c n' c' => Lib.run_eql_slice_nil w _ _ a n c n' c' Tryz.underlying24
  have HS4 := Lib.hid hS
  clear hS hser hb0 hlv HT HA
  gi_wp2_with fail
  have hS := HS4.out
  clear l1 q22 HS4
  have hstw : StAt w4 S := hS.st
  have hsn0 : w.heap.size ∉ s.own := fun hm => by have := (h.ser _ hms).lt _ hm; omega
  have hcut : S.ss = loL ltS S.ss (textL zs) ++ (textL zs, s) :: hiL ltS S.ss (textL zs) := by
    rcases cut_at14 stoS S.ss (textL zs) h.srt with ⟨v, q1, q2⟩ | ⟨q1, _⟩
    · rw [hgs] at q1
      obtain rfl : s = v := by simpa using q1
      exact q2
    · rw [hgs] at q1; cases q1
  refine region_anyM (S := fun u => At u w.heap.size [.slice a n cap, .int .i64 x.v, .int .i64 x.t, .int .i64 x.s, .int .i64 x.q]) 8 (by kernel_rfl) (fun hX => ?_) hS.X.drew
  refine anyM_d 0 [0, 8] hX ?_
  refine anyM_d 1 [1, 8] hX ?_
  refine anyM_d 2 [2, 8] hX ?_
  refine anyM_d 3 [3, 8] hX ?_
  refine anyM_d 4 [4, 8] hX ?_
  refine anyM_c 5 [5, 8] hX (fun u h => h.f5) ?_
  refine anyM_o 6 (fun K hK => ?_)
  go_simp
  refine ⟨trivial, ?_⟩
  refine (callsIn_wide.2 (hHE.out _ hS.drew.st)).mono ?_
  rintro e w5 ⟨rfl, rfl⟩
  dsimp only
  refine hK _ _ hX ?_
  clear hK K hHE
  refine anyM_o 7 (fun K hK => ?_)
  go_simp
  refine ⟨trivial, ?_⟩
  refine (callsIn_wide.2 (hHP.out _ (hS.drew.st.ser _ hms))).mono ?_
  rintro e w6 ⟨s6, A6, B6, p6, rfl, hpa, hse, htu, hnw⟩
  have hX6 := at_turn14 hX htu hsn0
  dsimp only
  refine hK _ _ hX6 ?_
  clear hK K hHP
  refine anyM_l (fun K hK => ?_)
  go_simp
  refine hK _ _ ?_
  clear hK K
  refine anyIn_done (by kernel_rfl) ?_ _
  have hc6 := hse.cells (endR S.grid x.t, p6) (by rw [hpa.ps]; simp)
  dsimp only at hc6
  rw [clC_X] at hc6
  have hok6 := hse.ok (endR S.grid x.t, p6) (by rw [hpa.ps]; simp)
  have hlen6 : p6.L.length < 100 := by
    rw [hpa.L, conP_get]
    cases q : getL s.ps (endR S.grid x.t) with
    | none => show 0 < 100; omega
    | some p0 =>
      have : (endR S.grid x.t, p0) ∈ s.ps := by
        rcases cut_at14 stoI s.ps (endR S.grid x.t) (hstw.ser _ hms).srt with ⟨v, q1, q2⟩ | ⟨q1, _⟩
        · rw [q] at q1
          obtain rfl : p0 = v := by simpa using q1
          rw [q2]; simp
        · rw [q] at q1; cases q1
      exact (hln _ hms).2 _ this
  have HD := Lib.hid hpa
  have HSe := Lib.hid hse
  have HTu := Lib.hid (show Turn s.own w4 w6 from ((Turn.refl _ w4).drew.trans htu (fun _ q => .inl q)))
  have HNw := Lib.hid (show New s.own s6.own w4 from fun b q => (hnw b q).imp id (fun r => r))
  have HSt := Lib.hid hS.st
  clear hpa hse htu hnw hX hS
  gi_wp2_with fail
  have hbd1 : Bd p6.L.length (ofR p6.L) := ofR_bd p6.L hok6.i64 (by omega)
  have hM := Lib.hid (fun W => merge_any (ofR p6.L) (ofR [x]) hbd1 (ofR_bd [x] (fun y hy => by rw [List.mem_singleton.1 hy]; exact hx) (by show 1 ≤ 1000000; omega)) (by show p6.L.length + 1 ≤ 1000000; omega) W)
  have hR0 : PtR (.slice a n cap) x w.heap.size p6.blk (clX (ofR p6.L) (histR (vals p6.L))) w6 := ⟨hX6, hc6⟩
  have hOf := Lib.hid (fun W (hW : Smps W (.slice (some ⟨w6.heap.size, 0, none⟩) 1 1) [⟨a, n, cap, [], x⟩]) => pof_any (some ⟨w6.heap.size, 0, none⟩) 1 [⟨a, n, cap, [], x⟩] (by show 1 ≤ 10000; omega) (fun y hy => by rw [show nums [(⟨a, n, cap, [], x⟩ : Smp)] = [x] from rfl] at hy; rw [List.mem_singleton.1 hy]; exact hx) W hW)
  have hnm : nums [(⟨a, n, cap, [], x⟩ : Smp)] = [x] := rfl
  rw [hnm] at hOf
  have HVL := Lib.hid (show mergeR (ofR p6.L) (ofR [x]) = ofR (p6.L ++ [x]) from (ofR_app _ _).symm)
  have HHi := Lib.hid (show putR (histR (vals p6.L)) x.v = histR (vals (p6.L ++ [x])) by rw [show vals (p6.L ++ [x]) = vals p6.L ++ [x.v] by simp [vals], histR_snoc])
  have hall : All64 (vals p6.L) := fun y hy => by
    obtain ⟨z, hz1, rfl⟩ := List.mem_map.1 hy
    exact hok6.i64 z hz1
  have hsm := histR_small hall (by show (List.map (·.v) p6.L).length ≤ _; rw [List.length_map]; omega)
  have HL65 := Lib.hid (histR_len (vals p6.L))
  have hxb : p6.blk ≠ w.heap.size := fun e => by
    have h1 := hX6.cell 0 _ rfl
    rw [← e] at h1
    have h2 := (cell_of_row w6 p6.blk 0 _ _ _ hc6).symm.trans h1
    cases h2
  obtain ⟨pn, hpn⟩ : ∃ pn, pn = ofR p6.L := ⟨_, rfl⟩
  obtain ⟨ph, hph⟩ : ∃ ph, ph = histR (vals p6.L) := ⟨_, rfl⟩
  obtain ⟨po, hpo⟩ : ∃ po, po = ofR [x] := ⟨_, rfl⟩
  obtain ⟨pr, hpr⟩ : ∃ pr, pr = mergeR pn po := ⟨_, rfl⟩
  rw [← hpn, ← hph] at hR0
  rw [← hpn, ← hpo, ← hpr] at hM
  rw [← hpo] at hOf
  rw [← hpn, ← hpo, ← hpr] at HVL
  rw [← hph] at HHi hsm HL65
  unfold Pn.V at hM hOf
  clear hX6 hc6 hbd1 hpr hall hnm hpn hph hpo
  have HR0 := Lib.hid hR0
  refine region_anyM (S := PtR (.slice a n cap) x w.heap.size p6.blk (clX pn ph)) 11 (by kernel_rfl) (fun hS => ?_) hR0.drew
  clear hR0
  refine anyM_d 0 [0, 11] hS ?_
  refine anyM_d 1 [1, 11] hS ?_
  refine anyM_d 2 [2, 11] hS ?_
  refine anyM_d 3 [3, 11] hS ?_
  refine anyM_c 4 [4, 11] hS (fun u h => (clX_cells h.C).1) ?_
  refine anyM_c 5 [5, 11] hS (fun u h => h.X.f5) ?_
  refine anyM_o 6 (fun K hK => ?_)
  go_simp
  have hal : Below w6.heap.size w6 (w6.alloc (.cells #[.slice a n cap, .int .i64 x.v, .int .i64 x.t, .int .i64 x.s, .int .i64 x.q] 33)).drew := (below_cells _).drew
  have hSm : Smps (w6.alloc (.cells #[.slice a n cap, .int .i64 x.v, .int .i64 x.t, .int .i64 x.s, .int .i64 x.q] 33)).drew (.slice (some ⟨w6.heap.size, 0, none⟩) 1 1) [⟨a, n, cap, [], x⟩] := by
    refine .inr ⟨w6.heap.size, 0, 1, rfl, by simp [World.drew], fun j s hj i v hv => ?_⟩
    rcases j with _ | j
    · obtain rfl : (⟨a, n, cap, [], x⟩ : Smp) = s := by simpa using hj
      have := (At.new w6 #[.slice a n cap, .int .i64 x.v, .int .i64 x.t, .int .i64 x.s, .int .i64 x.q] 33).drew.cell i v hv
      simpa using this
    · simp at hj
  have hM1 : PtR (.slice a n cap) x w.heap.size p6.blk (clX pn ph) (w6.alloc (.cells #[.slice a n cap, .int .i64 x.v, .int .i64 x.t, .int .i64 x.s, .int .i64 x.q] 33)).drew := HR0.out.below hal
  have HB7 := Lib.hid hal
  have HO7 := Lib.hid (hOf.out _ hSm)
  clear hSm hal hOf
  generalize (w6.alloc (.cells #[.slice a n cap, .int .i64 x.v, .int .i64 x.t, .int .i64 x.s, .int .i64 x.q] 33)).drew = w7 at *
  refine hK _ _ hM1 ?_
  clear hS
  have hS := hM1
  clear hM1 hK K
  refine anyM_o 7 (fun K hK => ?_)
  go_simp
  refine ⟨trivial, ?_⟩
  refine (callsIn_wide.2 HO7.out).mono ?_
  rintro e w8 ⟨rfl, hb8⟩
  have hM1 := hS.below hb8
  have HB8 := Lib.hid (HB7.out.trans (hb8.mono HB7.out.size))
  dsimp only
  refine hK _ _ hM1 ?_
  clear hS
  have hS := hM1
  clear hM1 hK K hb8 HB7 HO7
  refine anyM_o 8 (fun K hK => ?_)
  go_simp
  refine ⟨trivial, ?_⟩
  refine (callsIn_wide.2 (hM.out _)).mono ?_
  rintro e w9 ⟨rfl, hb9⟩
  have hM1 := hS.below hb9
  have HB9 := Lib.hid (HB8.out.trans (hb9.mono HB8.out.size))
  dsimp only
  refine hK _ _ hM1 ?_
  clear hS
  have hS := hM1
  clear hM1 hK K hb9 HB8 hM
  refine anyM_d 9 [9, 10, 11] hS ?_
  refine anyM_d 10 [10, 11] hS ?_
  refine anyM_l (fun K hK => ?_)
  obtain ⟨cz, fz⟩ := clX_cells hS.C
  have f0 := fz 0
  have f1 := fz 1
  have f2 := fz 2
  have f3 := fz 3
  have f4 := fz 4
  have f5 := fz 5
  have f6 := fz 6
  have f7 := fz 7
  have f8 := fz 8
  go_simp
  obtain ⟨w10, hw10⟩ : ∃ w10, w10 = ((((((((w9.setCell ⟨p6.blk, 0, none⟩ (.int .i64 pr.c)).setCell ⟨p6.blk, 1, none⟩ (.int .i64 pr.h)).setCell ⟨p6.blk, 2, none⟩ (.int .u64 pr.l)).setCell ⟨p6.blk, 3, none⟩ (.int .i64 pr.mn)).setCell ⟨p6.blk, 4, none⟩ (.int .i64 pr.mx)).setCell ⟨p6.blk, 5, none⟩ (.int .i64 pr.t)).setCell ⟨p6.blk, 6, none⟩ (.int .i64 pr.s)).setCell ⟨p6.blk, 7, none⟩ (.int .i64 pr.q)).setCell ⟨p6.blk, 8, none⟩ (.int .i64 pr.v) := ⟨_, rfl⟩
  have hR10 : PtR (.slice a n cap) x w.heap.size p6.blk (clX pr ph) w10 := by
    rw [hw10]
    refine ⟨(((((((((hS.X.far hxb _).far hxb _).far hxb _).far hxb _).far hxb _).far hxb _).far hxb _).far hxb _).far hxb _), ?_⟩
    have := blk_set14 (blk_set14 (blk_set14 (blk_set14 (blk_set14 (blk_set14 (blk_set14 (blk_set14 (blk_set14 hS.C 0 (.int .i64 pr.c)) 1 (.int .i64 pr.h)) 2 (.int .u64 pr.l)) 3 (.int .i64 pr.mn)) 4 (.int .i64 pr.mx)) 5 (.int .i64 pr.t)) 6 (.int .i64 pr.s)) 7 (.int .i64 pr.q)) 8 (.int .i64 pr.v)
    rwa [clX_pane] at this
  have st1 : ∀ {u : World} (j : Nat) (v : Value), Turn [p6.blk] w6 u → Turn [p6.blk] w6 (u.setCell ⟨p6.blk, j, none⟩ v) := fun j v h => h.trans (Turn.set _ _ j v) (fun _ q => .inl q)
  have HT10 := Lib.hid (show Turn [p6.blk] w6 w10 by
    rw [hw10]
    exact st1 _ _ (st1 _ _ (st1 _ _ (st1 _ _ (st1 _ _ (st1 _ _ (st1 _ _ (st1 _ _ (st1 _ _ (Turn.of_below HB9.out _))))))))))
  rw [← hw10]
  clear hw10 st1 f0 f1 f2 f3 f4 f5 f6 f7 f8 cz fz hS HB9
  refine hK _ _ ?_
  clear hK K
  refine anyIn_done (by kernel_rfl) ?_ _
  gi_wp2_with fail
  have hbk := bucketR_le x.v hx.2
  have hx9 : ph[bucketR x.v]? = some (nth ph (bucketR x.v)) := nth_some (by have := HL65.out; omega)
  have hnb := hsm.at (bucketR x.v)
  have hPut := Lib.hid (hput14 p6.blk pr ph x.v (nth ph (bucketR x.v)) TC w10.drew hR10.C hx hx9 hnb)
  have hS0 : PtR (.slice a n cap) x w.heap.size p6.blk (clX pr ph) w10.drew := hR10.drew
  refine region_anyM (S := PtR (.slice a n cap) x w.heap.size p6.blk (clX pr ph)) 5 (by kernel_rfl) (fun hS => ?_) hS0
  refine anyM_d 0 [0, 1, 2, 5] hS ?_
  refine anyM_d 1 [1, 2, 5] hS ?_
  refine anyM_d 2 [2, 5] hS ?_
  refine anyM_d 3 [3, 4, 5] hS ?_
  refine anyM_c 4 [4, 5] hS (fun u h => h.X.f5) ?_
  refine anyM_l (fun K hK => ?_)
  go_simp
  refine ⟨trivial, ?_⟩
  refine (callsIn_wide.2 hPut.out).mono ?_
  rintro e w11 ⟨⟨r0, rfl⟩, hw11⟩
  have hC11 : w11.heap[p6.blk]? = some (.cells (clX pr (putR ph x.v)) TC (0, 0)) := by
    rw [hw11]
    have := blk_set14 (w := w10.drew) hR10.C (9 + bucketR x.v) (.int .i64 (nth ph (bucketR x.v) + 1))
    rw [clX_put] at this
    exact this
  have HT11 := Lib.hid (show Turn [p6.blk] w6 w11 by
    rw [hw11]
    exact ((HT10.out.drew).trans (Turn.set w10.drew p6.blk (9 + bucketR x.v) _) (fun _ q => .inl q)).drew)
  clear hw11 hPut hS0 hS hR10 HT10
  dsimp only
  refine hK _ _ ?_
  clear hK K
  refine anyIn_done (by kernel_rfl) ?_ _
  -- the series, the store as they are now
  have hser7 : SerAt w11 { s6 with ps := A6 ++ (endR S.grid x.t, ⟨p6.blk, p6.L ++ [x]⟩) :: B6 } := by
    refine pane_set HSe.out HD.out.ps HT11.out ?_ (fun y hy => ?_) (by show (p6.L ++ [x]).length ≤ 100; rw [List.length_append, List.length_singleton]; omega)
    · rw [clC_X, ← HVL.out, ← HHi.out]
      exact hC11
    · rcases List.mem_append.1 hy with q | q
      · exact hok6.i64 y q
      · rw [List.mem_singleton.1 q]; exact hx
  have HTn : Turn s.own w4 w11 := HTu.out.trans HT11.out (fun b q => HNw.out b (by rw [List.mem_singleton.1 q]; simp only [Sr.own, List.mem_cons, List.mem_append, List.mem_map]; exact .inr (.inr ⟨_, by rw [HD.out.ps]; exact List.mem_append_right _ (List.mem_cons_self ..), rfl⟩)))
  have hNn : New s.own ({ s6 with ps := A6 ++ (endR S.grid x.t, ⟨p6.blk, p6.L ++ [x]⟩) :: B6 } : Sr).own w4 := fun b q => HNw.out b (by
    simp only [Sr.own, List.mem_cons, List.mem_append, List.mem_map] at q ⊢
    rcases q with q | q | ⟨e, q | q | q, r⟩
    · exact .inl q
    · exact .inr (.inl q)
    · exact .inr (.inr ⟨e, by rw [HD.out.ps]; simp [q], r⟩)
    · exact .inr (.inr ⟨_, by rw [HD.out.ps]; exact List.mem_append_right _ (List.mem_cons_self ..), by rw [← r, q]⟩)
    · exact .inr (.inr ⟨e, by rw [HD.out.ps]; simp [q], r⟩))
  have hst7 := st_set HSt.out hcut hser7 HD.out.sb HD.out.ls HTn hNn
  have hown7 := set_own (w := w4) hcut hNn
  have hcn7 : conP ({ s6 with ps := A6 ++ (endR S.grid x.t, ⟨p6.blk, p6.L ++ [x]⟩) :: B6 } : Sr).ps = putL ltI (conP s.ps) (endR S.grid x.t) ((getL (conP s.ps) (endR S.grid x.t)).getD [] ++ [x]) := by
    show conP (A6 ++ (endR S.grid x.t, ⟨p6.blk, p6.L ++ [x]⟩) :: B6) = _
    unfold putL
    rw [conP_app, ← HD.out.cA, ← HD.out.cB, ← HD.out.L]
    rfl
  generalize hs7 : ({ s6 with ps := A6 ++ (endR S.grid x.t, ⟨p6.blk, p6.L ++ [x]⟩) :: B6 } : Sr) = s7 at *
  have hl7 : s7.ls = s.ls ∧ s7.lv = s.lv := by rw [← hs7]; exact ⟨HD.out.ls, HD.out.lv⟩
  have hbk7 := hst7.blk
  have n1 := (cell_of_row w11 S.b 2 _ _ _ hbk7).trans (show _ = some (Value.int .i64 S.n) from rfl)
  have n2 := frozen_of_row w11 S.b 2 _ _ hbk7
  have hw : wrap64 (S.n + 1) = S.n + 1 := by rw [wrap64]; omega
  have hwI : IntKind.i64.wrap (S.n + 1) = S.n + 1 := by rw [IntKind.wrap_i64]; omega
  have HF := Lib.hid (show TailP S s (loL ltS S.ss (textL zs)) (hiL ltS S.ss (textL zs)) (textL zs) x w4 (w11.setCell ⟨S.b, 2, none⟩ (.int .i64 (S.n + 1))) from ⟨s7, st_count hst7 (S.n + 1), hl7.1, hl7.2, hcn7, (HTn.mono (fun b q => Sto.mem_own.2 (.inr (.inr ⟨_, hms, q⟩)))).trans (Turn.set w11 S.b 2 _) (fun b q => .inl (Sto.mem_own.2 (.inl (List.mem_singleton.1 q)))), hown7⟩)
  clear hst7 hown7 hcn7 hs7 hl7 hbk7 HTn hNn hser7 hC11 HT11 HSe HTu HNw HSt HD HVL HHi HL65 hsm
  gi_wp2
  refine bodyPost_ret (by simp [results, Tryz.results11, go_sem]; try rfl) rfl ?_
  obtain ⟨s7, f1, f2, f3, f4, f5, f6⟩ := HF.out
  have hT4 := T4.out
  refine ⟨rfl, _, f1, rfl, rfl, rfl, ?_, (hT4.mono (fun _ q => nomatch q)).trans f5 (fun _ q => .inl q), fun b q => (f6 b q).imp id (fun r => Nat.le_trans hT4.size r), fun e he b hb => .inl ?_⟩
  · unfold putC
    rw [con_get, hgs]
    show (loL ltS S.ss (textL zs) ++ (textL zs, s7) :: hiL ltS S.ss (textL zs)).map con = putL ltS (S.ss.map con) (textL zs) (s.ls, _)
    rw [List.map_append, List.map_cons, (con_lo S.ss (textL zs)).1, (con_lo S.ss (textL zs)).2]
    unfold putL con
    dsimp only
    rw [f2, f4]
    rfl
  · rcases List.mem_append.1 he with q | q
    · exact ⟨e, (List.mem_filter.1 q).1, hb⟩
    · rcases List.mem_cons.1 q with rfl | q
      · dsimp only at hb
        rw [f3] at hb
        exact ⟨_, hms, hb⟩
      · exact ⟨e, (List.mem_filter.1 q).1, hb⟩
end Go.Proofs.YtedcdhngiofpjaaGreatDoor
