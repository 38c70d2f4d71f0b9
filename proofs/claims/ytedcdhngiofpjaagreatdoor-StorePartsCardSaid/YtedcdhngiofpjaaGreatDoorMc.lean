/- store: a sorted map's insert, drop at any map. -/
import Derived.Test.YtedcdhngiofpjaaGreatDoorSrI
import Derived.Test.YtedcdhngiofpjaaGreatDoorSeI
namespace Go.Proofs.YtedcdhngiofpjaaGreatDoor
open Go Go.Proofs Go.RowKit Go.Shelf
set_option maxRecDepth 100000
theorem insertI_map (sb off : Nat) (cs : Array Value) (T : TypeId) (v : Value) (es : List EnI) (O : List Nat) (p : Nat) (x : EnI) (w : World) (hS : w.heap[sb]? = some (.cells cs T (0, 0))) (hv : cs[off]? = some v)
    (hM : MapI w v es O) (hsb : sb ∉ O) (hz : es.length ≤ 100) (hp : p ≤ es.length) :
    Calls Tryz.prog 73 #[.pointer (some ⟨sb, off, none⟩), .int .i64 0, .int .i64 (p : Int), .agg #[.int .i64 x.1, .pointer (some ⟨x.2, 0, none⟩)]] w fun e w' => (∃ r, e = .returned r) ∧ PutIPost sb off cs T (es.take p ++ x :: es.drop p) O w w' := by
  rcases hM with ⟨rfl, rfl, a, c, rfl⟩ | ⟨h1, R, E, cap, rfl, rfl, h3, h4⟩
  · obtain rfl : p = 0 := by simpa using hp
    exact insertI_nil sb off cs T a c x w hS hv
  · exact insertI_row sb off R E cap cs T es hz p hp x w hS hv h3 h4 (fun e => hsb (by simp [e])) (fun e => hsb (by simp [e]))
set_option maxHeartbeats 4000000 in
theorem rdelI_any (R : Nat) (v : Value) (w : World) (hR : w.heap[R]? = some (.cells #[v] TLI (0, 0))) :
    Calls Tryz.prog 124 #[.slice (some ⟨R, 0, none⟩) 1 1, .int .i64 0, .int .i64 1] w fun e w' => e = .returned (.slice (some ⟨R, 0, none⟩) 0 1) ∧ w' = w.drew.setCell ⟨R, 0, none⟩ (.slice none 0 0) := by
  obtain ⟨i0, hi0, hz0, hz1, hz2⟩ := info_parts (show (Tryz.prog.info? TLI).map (fun i => (i.zero, i.size, i.bytes)) = some (some (.slice none 0 0), 1, 24) by kernel_rfl)
  obtain ⟨W1, hW1⟩ : ∃ W1, W1 = w.drew.setCells R (0 + 0 * 1) [] := ⟨_, rfl⟩
  have hWd : W1 = w.drew := hW1
  have hcl : ∀ ty, (Builtin.clear_ #[TRI] ty #[.slice (some ⟨R, 0, none⟩) 1 1]).run Tryz.prog W1 = .ok (.tuple #[]) (W1.setCells R 0 (List.replicate 1 (.slice none 0 0))) := fun ty => by
    rw [hWd]
    exact Lib.run_clear_slice w.drew _ _ ty _ Tryz.underlying88 Tryz.zeroValue153 rfl rfl R 0 _ _ (by omega) (fun t ht => by
      obtain rfl : t = 0 := by omega
      rw [cell_of_row w.drew R 0 _ _ _ hR]; rfl) (fun t _ => frozen_of_row w.drew R _ _ _ hR)
  obtain ⟨W2, hW2⟩ : ∃ W2, W2 = W1.setCells R 0 (List.replicate 1 (.slice none 0 0)) := ⟨_, rfl⟩
  rw [← hW2] at hcl
  have HQ := Lib.hid (show W2 = w.drew.setCell ⟨R, 0, none⟩ (.slice none 0 0) by rw [hW2, hWd]; rfl)
  have hW : Hid (W1 = w.drew.setCells R (0 + 0 * 1) []) := hW1
  have hs3 : Hid (∀ t, t < ([] : List Value).length → (w.drew.cell? ⟨R, 0 + 0 * 1 + t, none⟩).isSome = true ∧ w.drew.frozen? ⟨R, 0 + 0 * 1 + t, none⟩ = false) := fun t ht => absurd ht (Nat.not_lt_zero _)
  clear hR hW1 hWd hW2
  go_enter Tryz.func124, Tryz.ntmps124
  go_wp2_with fail
  go_region_law (refine step_append_room rfl (.tmp 22) (.tmp 25) TRI rfl TLI i0 1 Tryz.underlying88 hi0 hz1 R 0 0 1 (by simp [Act.eval, Act.put]) ⟨R, 0, none⟩ 0 0 [] (by simp [Act.eval, Act.put]) rfl (fun j u h => by simp at h) (fun u h => by simp at h) (by omega) hs3.out ?_; rw [← hW.out])
  go_wp2
  go_ret
  exact ⟨rfl, HQ.out⟩
/-- what drop leaves -/
def DrpIPost (sb off : Nat) (cs : Array Value) (T : TypeId) (es : List EnI) (O : List Nat) (w w' : World) : Prop :=
  ∃ v' O', w'.heap[sb]? = some (.cells (cs.setIfInBounds off v') T (0, 0)) ∧ MapI w' v' es O' ∧ Turn (sb :: O) w w' ∧ ∀ b ∈ O', b ∈ O
set_option maxHeartbeats 8000000 in
theorem dropI_any (sb off : Nat) (cs : Array Value) (T : TypeId) (v : Value) (es : List EnI) (O : List Nat) (t : Int) (p : Nat) (w : World) (hS : w.heap[sb]? = some (.cells cs T (0, 0))) (hv : cs[off]? = some v)
    (hM : MapI w v es O) (hsb : sb ∉ O) (hz : es.length ≤ 100) (hp : p < es.length) (hP : ∀ k x, es[k]? = some x → (ltI x.1 t = true ↔ k < p)) (hh : hereI es p t = true) :
    Calls Tryz.prog 80 #[.pointer (some ⟨sb, off, none⟩), .int .i64 t] w fun e w' => (∃ r, e = .returned r) ∧ DrpIPost sb off cs T (es.take p ++ es.drop (p + 1)) O w w' := by
  rcases hM with ⟨rfl, rfl, a, c, rfl⟩ | ⟨h1, R, E, cap, rfl, rfl, hR, hE⟩
  · cases hp
  obtain ⟨n, hn⟩ : ∃ n, es.length = n + 1 := ⟨es.length - 1, by omega⟩
  obtain ⟨hc, hf⟩ := cell_blkI hS hv
  have hl : sb < w.heap.size := (Array.getElem?_eq_some_iff.1 hS).1
  have hlR : R < w.heap.size := (Array.getElem?_eq_some_iff.1 hR).1
  have hlE : E < w.heap.size := hE.lt
  have hRE : R ≠ E := by
    rintro rfl
    obtain ⟨cur, q1, _⟩ := hE
    have := q1.symm.trans hR
    simp [TEI, TLI] at this
  have hsR : sb ≠ R := fun e => hsb (by simp [e])
  have hsE : sb ≠ E := fun e => hsb (by simp [e])
  rw [hn] at hR
  have HN := Lib.hid (placeI_row sb off R E cap n es (by omega) hn t p (by omega) hP w hc ((cell_of_row w R 0 _ _ _ hR).trans rfl) hE)
  rw [hh] at HN
  have hD : ∀ W : World, (∀ k, k < w.heap.size → W.heap[k]? = w.heap[k]?) → Calls Tryz.prog 121 #[.slice (some ⟨E, 0, none⟩) (n + 1) cap, .int .i64 (p : Int), .int .i64 ((p : Int) + 1)] W (DelIPost (es.take p ++ es.drop (p + 1)) E cap W) := fun W hW =>
    deleteI_any E cap n es p W (by omega) hn (by omega) (hE.keep (hW E hlE))
  have hlen : (es.take p ++ es.drop (p + 1)).length = n := by rw [List.length_append, List.length_take, List.length_drop, hn]; omega
  have hF : ∀ W : World, Below w.heap.size w W → W.cell? ⟨sb, off, none⟩ = some (.slice (some ⟨R, 0, none⟩) 1 1) ∧ W.frozen? ⟨sb, off, none⟩ = false ∧ W.cell? ⟨R, 0, none⟩ = some (.slice (some ⟨E, 0, none⟩) (n + 1) cap) := fun W hb =>
    ⟨(hb.cell (p := ⟨sb, off, none⟩) hl).trans hc, (hb.frozen (p := ⟨sb, off, none⟩) hl).trans hf, (hb.cell (p := ⟨R, 0, none⟩) hlR).trans ((cell_of_row w R 0 _ _ _ hR).trans rfl)⟩
  have hG : ∀ W W3 : World, Below w.heap.size w W → Turn [E] W W3 → W3.cell? ⟨sb, off, none⟩ = some (.slice (some ⟨R, 0, none⟩) 1 1) ∧ W3.frozen? ⟨sb, off, none⟩ = false ∧ W3.cell? ⟨R, 0, none⟩ = some (.slice (some ⟨E, 0, none⟩) (n + 1) cap) ∧ W3.frozen? ⟨R, 0, none⟩ = false := fun W W3 hb ht => by
    have e1 := (ht.block sb (Nat.lt_of_lt_of_le hl hb.size) (by simpa using hsE)).trans (hb.block sb hl)
    have e2 := (ht.block R (Nat.lt_of_lt_of_le hlR hb.size) (by simpa using hRE)).trans (hb.block R hlR)
    exact ⟨(World.cell?_of_block (a := ⟨sb, off, none⟩) e1).trans hc, (World.frozen?_of_block (a := ⟨sb, off, none⟩) e1).trans hf, (cell_of_row W3 R 0 _ _ _ (e2.trans hR)).trans rfl, frozen_of_row W3 R 0 _ _ (e2.trans hR)⟩
  -- what is left
  have hPo : ∀ W W3 : World, Below w.heap.size w W → DelIPost (es.take p ++ es.drop (p + 1)) E cap W (.returned (.slice (some ⟨E, 0, none⟩) n cap)) W3 → 0 < n → DrpIPost sb off cs T (es.take p ++ es.drop (p + 1)) [R, E] w (W3.setCell ⟨R, 0, none⟩ (.slice (some ⟨E, 0, none⟩) n cap)) := fun W W3 hb hd hn0 => by
    obtain ⟨_, hr, ht⟩ := hd
    have t3 : Turn [E] w W3 := (Turn.of_below hb [E]).trans ht (fun _ h => .inl h)
    refine ⟨.slice (some ⟨R, 0, none⟩) 1 1, [R, E], ?_, .inr ⟨?_, R, E, cap, rfl, rfl, ?_, ?_⟩, ?_, fun _ h => h⟩
    · rw [Below.heap_setCell _ _ _ _ (by dsimp only; omega), t3.block sb hl (by simpa using hsE), hS, set_same14 hv]
    · intro e
      rw [e] at hlen
      simp at hlen
      omega
    · rw [hlen]
      have := blk_set14 (t3.at (b := R) (by simpa using hRE) hR) 0 (.slice (some ⟨E, 0, none⟩) n cap)
      simpa using this
    · exact hr.keep (Below.heap_setCell _ _ _ _ (by dsimp only; omega))
    · exact (t3.mono (fun b h => by simp at h; simp [h])).trans (Turn.set _ R 0 _) (fun b h => .inl (by simp at h; simp [h]))
  have hPz : ∀ W W3 : World, Below w.heap.size w W → Turn [E] W W3 → n = 0 → DrpIPost sb off cs T (es.take p ++ es.drop (p + 1)) [R, E] w (((W3.setCell ⟨R, 0, none⟩ (.slice (some ⟨E, 0, none⟩) n cap)).drew.setCell ⟨R, 0, none⟩ (.slice none 0 0)).setCell ⟨sb, off, none⟩ (.slice (some ⟨R, 0, none⟩) 0 1)) := fun W W3 hb ht hn0 => by
    have t3 : Turn [E] w W3 := (Turn.of_below hb [E]).trans ht (fun _ h => .inl h)
    refine ⟨.slice (some ⟨R, 0, none⟩) 0 1, [], ?_, .inl ⟨?_, rfl, _, _, rfl⟩, ?_, fun _ h => nomatch h⟩
    · refine blk_set14 ?_ _ _
      rw [Below.heap_setCell _ _ _ _ (by dsimp only; omega)]
      show (W3.setCell ⟨R, 0, none⟩ (.slice (some ⟨E, 0, none⟩) n cap)).heap[sb]? = _
      rw [Below.heap_setCell _ _ _ _ (by dsimp only; omega), t3.block sb hl (by simpa using hsE), hS]
    · exact List.eq_nil_of_length_eq_zero (by omega)
    · exact (((t3.mono (fun b h => by simp at h; simp [h])).trans (Turn.set _ R 0 _) (fun b h => .inl (by simp at h; simp [h]))).drew.trans (Turn.set _ R 0 _) (fun b h => .inl (by simp at h; simp [h]))).trans (Turn.set _ sb off _) (fun b h => .inl (by simp at h; simp [h]))
  have hRd : ∀ W3 : World, Turn [E] w W3 → (W3.setCell ⟨R, 0, none⟩ (.slice (some ⟨E, 0, none⟩) n cap)).heap[R]? = some (.cells #[.slice (some ⟨E, 0, none⟩) n cap] TLI (0, 0)) := fun W3 t3 => by
    have := blk_set14 (t3.at (b := R) (by simpa using hRE) hR) 0 (.slice (some ⟨E, 0, none⟩) n cap)
    simpa using this
  have HD := Lib.hid hD
  have HF := Lib.hid hF
  have HG := Lib.hid hG
  have HPo := Lib.hid hPo
  have HPz := Lib.hid hPz
  have HRd := Lib.hid hRd
  have HL := Lib.hid hlen
  have hw1 : IntKind.i64.wrap ((p : Int) + 1) = (p : Int) + 1 := by rw [IntKind.wrap_i64]; omega
  have hw2 : wrap64 ((p : Int) + 1) = (p : Int) + 1 := by rw [wrap64]; omega
  have hl2 : Hid (sb < w.heap.size ∧ R < w.heap.size) := ⟨hl, hlR⟩
  clear hD hF hG hPo hPz hRd hS hv hR hE hl hlR hlE hc hf hsE hRE hh hP hlen h1 hsb hp hz hn
  go_enter Tryz.func80, Tryz.ntmps80
  go_wp2_with fail
  refine HN.out.mono ?_
  rintro e w1 ⟨rfl, hb1⟩
  obtain ⟨c1, c2, c3⟩ := HF.out w1 hb1
  have hs1 : sb < w1.heap.size := Nat.lt_of_lt_of_le hl2.out.1 hb1.size
  have hs2 : R < w1.heap.size := Nat.lt_of_lt_of_le hl2.out.2 hb1.size
  have HD1 := Lib.hid (HD.out w1.drew (fun k hk => hb1.block k hk))
  have HB1 := Lib.hid (show Below w.heap.size w w1.drew from hb1.drew)
  clear HN HD HF hb1
  go_wp2
  go_region_with (first | (go_at_call 121; refine HD1.out.mono ?_; rintro e W3 hdp; have hdr := hdp.1; rw [HL.out] at hdr; subst hdr; obtain ⟨g1, g2, g3, g4⟩ := HG.out _ W3 HB1.out hdp.2.2; have HDP := Lib.hid hdp; clear hdp))
  all_goals
    clear c1 c2 c3 HD1
    have hs3 : Hid (Turn [E] w W3) := (Turn.of_below HB1.out [E]).trans HDP.out.2.2 (fun _ h => .inl h)
    by_cases hn0 : n = 0
    · subst hn0
      have HR2 := Lib.hid (rdelI_any R _ _ (HRd.out W3 hs3.out))
      have HZ := Lib.hid (HPz.out _ W3 HB1.out HDP.out.2.2 rfl)
      clear HRd HPz HPo HG HL HDP HB1 hs3
      go_wp2_with fail
      refine HR2.out.mono ?_
      rintro e w5 ⟨rfl, rfl⟩
      go_wp2
      go_end0
      exact ⟨⟨_, rfl⟩, HZ.out⟩
    · have HZ := Lib.hid (HPo.out _ W3 HB1.out HDP.out (by omega))
      have hn1 : ¬ (n : Int) = 0 := by omega
      clear HRd HPz HPo HG HL HDP HB1 hs3
      go_wp2
      go_end0
      exact ⟨⟨_, rfl⟩, HZ.out⟩
end Go.Proofs.YtedcdhngiofpjaaGreatDoor
/- store: a sorted map's get, at. -/
namespace Go.Proofs.YtedcdhngiofpjaaGreatDoor
open Go Go.Proofs Go.RowKit Go.Shelf
set_option maxRecDepth 100000
def zvI : Array Value := #[.int .i64 0, .int .i64 0, .int .u64 0, .int .i64 0, .int .i64 0, .int .i64 0, .int .i64 0, .int .i64 0, .int .i64 0, .int .i64 0, .int .i64 0, .int .i64 0, .int .i64 0, .int .i64 0, .int .i64 0, .int .i64 0, .int .i64 0, .int .i64 0, .int .i64 0, .int .i64 0, .int .i64 0, .int .i64 0, .int .i64 0, .int .i64 0, .int .i64 0, .int .i64 0, .int .i64 0, .int .i64 0, .int .i64 0, .int .i64 0, .int .i64 0, .int .i64 0, .int .i64 0, .int .i64 0, .int .i64 0, .int .i64 0, .int .i64 0, .int .i64 0, .int .i64 0, .int .i64 0, .int .i64 0, .int .i64 0, .int .i64 0, .int .i64 0, .int .i64 0, .int .i64 0, .int .i64 0, .int .i64 0, .int .i64 0, .int .i64 0, .int .i64 0, .int .i64 0, .int .i64 0, .int .i64 0, .int .i64 0, .int .i64 0, .int .i64 0, .int .i64 0, .int .i64 0, .int .i64 0, .int .i64 0, .int .i64 0, .int .i64 0, .int .i64 0, .int .i64 0, .int .i64 0, .int .i64 0, .int .i64 0, .int .i64 0, .int .i64 0, .int .i64 0, .int .i64 0, .int .i64 0, .int .i64 0]
theorem zeroVI : ∀ w, (zeroValue 98).run Tryz.prog w = .ok (.agg zvI) w := fun w => by kernel_rfl
theorem placeI_map (sb off : Nat) (v : Value) (es : List EnI) (O : List Nat) (hz : es.length ≤ 1000) (t : Int) (p : Nat) (hp : p ≤ es.length) (hP : ∀ k x, es[k]? = some x → (ltI x.1 t = true ↔ k < p)) (w : World)
    (hc : w.cell? ⟨sb, off, none⟩ = some v) (hM : MapI w v es O) :
    Calls Tryz.prog 72 #[.pointer (some ⟨sb, off, none⟩), .int .i64 t] w (PlIPost p (hereI es p t) w) := by
  rcases hM with ⟨rfl, rfl, a, c, rfl⟩ | ⟨h1, R, E, cap, rfl, rfl, h3, h4⟩
  · obtain rfl : p = 0 := by simpa using hp
    exact placeI_nil sb off a c t w hc
  · obtain ⟨n, hn⟩ : ∃ n, es.length = n + 1 := ⟨es.length - 1, by cases es <;> simp at *⟩
    rw [hn] at h3
    exact placeI_row sb off R E cap n es hz hn t p hp hP w hc ((cell_of_row w R 0 _ _ _ h3).trans rfl) h4
theorem nextI_map (sb off : Nat) (v : Value) (es : List EnI) (O : List Nat) (hz : es.length ≤ 1000) (t : Int) (p : Nat) (hp : p ≤ es.length) (hP : ∀ k x, es[k]? = some x → (ltI x.1 t = true ↔ k < p)) (w : World)
    (hc : w.cell? ⟨sb, off, none⟩ = some v) (hM : MapI w v es O) :
    Calls Tryz.prog 84 #[.pointer (some ⟨sb, off, none⟩), .int .i64 t] w (NxIPost (es[if hereI es p t then p + 1 else p]?) w) := by
  rcases hM with ⟨rfl, rfl, a, c, rfl⟩ | ⟨h1, R, E, cap, rfl, rfl, h3, h4⟩
  · have : ([] : List EnI)[if hereI [] p t then p + 1 else p]? = none := by simp
    rw [this]
    exact nextI_nil sb off a c t w hc
  · obtain ⟨n, hn⟩ : ∃ n, es.length = n + 1 := ⟨es.length - 1, by cases es <;> simp at *⟩
    rw [hn] at h3
    exact nextI_row sb off R E cap n es hz hn t p hp hP w hc ((cell_of_row w R 0 _ _ _ h3).trans rfl) h4 _ rfl
/-- what at tells: the block of the value, as it was or new -/
def AtIPost (sb off : Nat) (cs : Array Value) (T : TypeId) (es : List EnI) (O : List Nat) (t : Int) (p : Nat) (w : World) (e : Ending) (w' : World) : Prop :=
  e = .returned (.pointer (some ⟨w.heap.size, 0, none⟩)) ∧ PutIPost sb off cs T (es.take p ++ (t, w.heap.size) :: es.drop p) O w w' ∧ w'.heap[w.heap.size]? = some (.cells zvI 98 (0, 0))
theorem atI_old (sb off : Nat) (v : Value) (es : List EnI) (O : List Nat) (hz : es.length ≤ 1000) (t : Int) (p : Nat) (hP : ∀ k x, es[k]? = some x → (ltI x.1 t = true ↔ k < p)) (vb : Nat) (hx : es[p]? = some (t, vb)) (w : World)
    (hc : w.cell? ⟨sb, off, none⟩ = some v) (hM : MapI w v es O) :
    Calls Tryz.prog 37 #[.pointer (some ⟨sb, off, none⟩), .int .i64 t] w fun e w' => e = .returned (.pointer (some ⟨vb, 0, none⟩)) ∧ Below w.heap.size w w' := by
  have hpl : p < es.length := (List.getElem?_eq_some_iff.1 hx).1
  have HN := Lib.hid (placeI_map sb off v es O hz t p (by omega) hP w hc hM)
  rw [show hereI es p t = true by unfold hereI; rw [hx]; simp] at HN
  rcases hM with ⟨rfl, rfl, a, c, rfl⟩ | ⟨h1, R, E, cap, rfl, rfl, h3, h4⟩
  · cases hpl
  have HF := Lib.hid (show ∀ W, Below w.heap.size w W → W.cell? ⟨sb, off, none⟩ = some (.slice (some ⟨R, 0, none⟩) 1 1) ∧ W.cell? ⟨R, 0, none⟩ = some (.slice (some ⟨E, 0, none⟩) es.length cap) ∧ W.cell? ⟨E, p * 2 + 1, none⟩ = some (.pointer (some ⟨vb, 0, none⟩)) from fun W hb =>
    ⟨(hb.cell (p := ⟨sb, off, none⟩) (World.block_lt_of_cell? w _ hc)).trans hc, (hb.cell (p := ⟨R, 0, none⟩) (Array.getElem?_eq_some_iff.1 h3).1).trans ((cell_of_row w R 0 _ _ _ h3).trans rfl), ((h4.below hb).cell hx).2⟩)
  have q1 : (p : Int) < (es.length : Int) := by omega
  have q2 : (0 : Int) ≤ (p : Int) := by omega
  clear h3 h4 hP hx hc h1 hpl
  go_enter Tryz.func37, Tryz.ntmps37
  go_wp2_with fail
  refine HN.out.mono ?_
  rintro e w1 ⟨rfl, hb1⟩
  obtain ⟨c1, c2, c3⟩ := HF.out w1 hb1
  have HB := Lib.hid hb1
  clear hb1 HF HN
  go_wp2
  go_ret
  exact ⟨rfl, HB.out⟩
set_option maxHeartbeats 4000000 in
theorem atI_new (sb off : Nat) (cs : Array Value) (T : TypeId) (v : Value) (es : List EnI) (O : List Nat) (hz : es.length ≤ 100) (t : Int) (p : Nat) (hp : p ≤ es.length) (hP : ∀ k x, es[k]? = some x → (ltI x.1 t = true ↔ k < p)) (hh : hereI es p t = false) (w : World)
    (hS : w.heap[sb]? = some (.cells cs T (0, 0))) (hv : cs[off]? = some v) (hM : MapI w v es O) (hsb : sb ∉ O) :
    Calls Tryz.prog 37 #[.pointer (some ⟨sb, off, none⟩), .int .i64 t] w (fun e w' => ∃ N, w.heap.size ≤ N ∧ e = .returned (.pointer (some ⟨N, 0, none⟩)) ∧ PutIPost sb off cs T (es.take p ++ (t, N) :: es.drop p) O w w' ∧ w'.heap[N]? = some (.cells zvI 98 (0, 0))) := by
  have hl : sb < w.heap.size := (Array.getElem?_eq_some_iff.1 hS).1
  have HN := Lib.hid (placeI_map sb off v es O (by omega) t p (by omega) hP w (cell_blkI hS hv).1 hM)
  rw [hh] at HN
  have HI := Lib.hid (show ∀ W, Below w.heap.size w W → Calls Tryz.prog 73 #[.pointer (some ⟨sb, off, none⟩), .int .i64 0, .int .i64 (p : Int), .agg #[.int .i64 t, .pointer (some ⟨W.heap.size, 0, none⟩)]] (W.alloc (.cells zvI 98)) fun e w' => (∃ r, e = .returned r) ∧ PutIPost sb off cs T (es.take p ++ (t, W.heap.size) :: es.drop p) O w w' ∧ w'.heap[W.heap.size]? = some (.cells zvI 98 (0, 0)) ∧ W.heap.size < w'.heap.size from fun W hb => by
    have hb2 : Below w.heap.size w (W.alloc (.cells zvI 98)) := below_new hb _
    refine (insertI_map sb off cs T v es O p (t, W.heap.size) _ ((hb2.block sb hl).trans hS) hv (hM.below hb2) hsb hz hp).mono ?_
    rintro e w' ⟨hr, v', O', h1, h2, h3, h4⟩
    have hsz := hb.size
    refine ⟨hr, ⟨v', O', h1, h2, ((Turn.of_below hb2 _).trans h3 (fun _ h => .inl h)), fun b hb' => ?_⟩, ?_, ?_⟩
    · rcases h4 b hb' with q | q
      · exact .inl q
      · exact .inr (by simp at q; omega)
    · refine h3.at ?_ (heap_alloc_new W _)
      intro hm
      rcases List.mem_cons.1 hm with q | q
      · omega
      · have := hM.lt _ q; omega
    · have := h3.size; simp at this; omega)
  have hz0 := zeroVI
  have hzn : zvI ≠ #[] := by unfold zvI; decide
  have HP := Lib.hid (show ∀ N w', w.heap.size ≤ N → PutIPost sb off cs T (es.take p ++ (t, N) :: es.drop p) O w w' → w'.heap[N]? = some (.cells zvI 98 (0, 0)) → ∃ N', w.heap.size ≤ N' ∧ Ending.returned (.pointer (some ⟨N, 0, none⟩)) = .returned (.pointer (some ⟨N', 0, none⟩)) ∧ PutIPost sb off cs T (es.take p ++ (t, N') :: es.drop p) O w w' ∧ w'.heap[N']? = some (.cells zvI 98 (0, 0)) from fun N w' h1 h2 h3 => ⟨N, h1, rfl, h2, h3⟩)
  generalize zvI = ZV at *
  clear hS hv hM hP hh hsb hp hz hl
  go_enter Tryz.func37, Tryz.ntmps37
  go_wp2_with fail
  refine HN.out.mono ?_
  rintro e w1 ⟨rfl, hb1⟩
  have HI1 := Lib.hid (HI.out w1 hb1)
  have HS1 := Lib.hid hb1.size
  clear HN HI hb1
  go_wp2_with fail
  refine HI1.out.mono ?_
  rintro e w2 ⟨⟨r, rfl⟩, h1, h2, h3⟩
  have HQ := Lib.hid (HP.out _ w2 HS1.out h1 h2)
  clear h1 h2 h3 HP HI1
  go_wp2
  go_ret
  exact HQ.out
end Go.Proofs.YtedcdhngiofpjaaGreatDoor
/- store: sorted lists of entries. -/
namespace Go.Proofs.YtedcdhngiofpjaaGreatDoor
open Go Go.Proofs
set_option maxRecDepth 100000
section
variable {K : Type} [DecidableEq K] {lt : K → K → Bool}
def Srt (lt : K → K → Bool) {V : Type} (es : List (K × V)) : Prop := es.Pairwise (fun a b => lt a.1 b.1 = true)
def loL (lt : K → K → Bool) {V : Type} (es : List (K × V)) (k : K) : List (K × V) := es.filter (fun e => lt e.1 k)
def hiL (lt : K → K → Bool) {V : Type} (es : List (K × V)) (k : K) : List (K × V) := es.filter (fun e => lt k e.1)
def getL {V : Type} (es : List (K × V)) (k : K) : Option V := (es.find? (fun e => decide (e.1 = k))).map (·.2)
variable {V : Type}
/-- a sorted list about a key -/
theorem cut_at14 (H : STO lt) : ∀ (es : List (K × V)) (k : K), Srt lt es →
    (∃ v, getL es k = some v ∧ es = loL lt es k ++ (k, v) :: hiL lt es k) ∨ (getL es k = none ∧ es = loL lt es k ++ hiL lt es k)
  | [], k, _ => .inr ⟨rfl, rfl⟩
  | x :: es, k, hs => by
    have hs' : Srt lt es := (List.pairwise_cons.1 hs).2
    have hx := (List.pairwise_cons.1 hs).1
    obtain ⟨xk, xv⟩ := x
    by_cases e1 : xk = k
    · subst e1
      have l0 : loL lt es xk = [] := List.filter_eq_nil_iff.2 (fun y hy => by rw [H.asym (hx y hy)]; simp)
      have h0 : hiL lt es xk = es := List.filter_eq_self.2 (fun y hy => hx y hy)
      refine .inl ⟨xv, by simp [getL], ?_⟩
      unfold loL hiL at *
      rw [List.filter_cons_of_neg (by simp [H.irr]), List.filter_cons_of_neg (by simp [H.irr]), l0, h0]
      rfl
    · by_cases e2 : lt xk k = true
      · have e3 : lt k xk = false := H.asym e2
        have g : getL ((xk, xv) :: es) k = getL es k := by simp [getL, e1]
        have l : loL lt ((xk, xv) :: es) k = (xk, xv) :: loL lt es k := List.filter_cons_of_pos e2
        have h : hiL lt ((xk, xv) :: es) k = hiL lt es k := List.filter_cons_of_neg (by simp [e3])
        rw [g, l, h]
        rcases cut_at14 H es k hs' with ⟨v, q1, q2⟩ | ⟨q1, q2⟩
        · exact .inl ⟨v, q1, by rw [List.cons_append, ← q2]⟩
        · exact .inr ⟨q1, by rw [List.cons_append, ← q2]⟩
      · have e2' : lt xk k = false := by simpa using e2
        have e3 : lt k xk = true := by
          cases q : lt k xk
          · exact absurd (H.tri _ _ e2' q) e1
          · rfl
        have hall : ∀ y ∈ es, lt k y.1 = true := fun y hy => H.trans _ _ _ e3 (hx y hy)
        have l : loL lt ((xk, xv) :: es) k = [] := List.filter_eq_nil_iff.2 (fun y hy => by
          rcases List.mem_cons.1 hy with rfl | hy
          · simp [e2']
          · rw [H.asym (hall y hy)]; simp)
        have h : hiL lt ((xk, xv) :: es) k = (xk, xv) :: es := List.filter_eq_self.2 (fun y hy => by
          rcases List.mem_cons.1 hy with rfl | hy
          · exact e3
          · exact hall y hy)
        refine .inr ⟨?_, by rw [l, h]; rfl⟩
        unfold getL
        rw [List.find?_eq_none.2]
        · rfl
        · intro y hy
          rcases List.mem_cons.1 hy with rfl | hy
          · simpa using e1
          · simp only [decide_eq_true_eq]
            rintro rfl
            have := hall y hy
            rw [H.irr] at this; cases this
theorem lo_lt {K : Type} {lt : K → K → Bool} {V : Type} {es : List (K × V)} {k : K} : ∀ x ∈ loL lt es k, lt x.1 k = true := fun x hx => (List.mem_filter.1 hx).2
theorem hi_lt {K : Type} {lt : K → K → Bool} {V : Type} {es : List (K × V)} {k : K} : ∀ x ∈ hiL lt es k, lt k x.1 = true := fun x hx => (List.mem_filter.1 hx).2
/-- where a key stands -/
def posL (lt : K → K → Bool) (es : List (K × V)) (k : K) : Nat := (loL lt es k).length
theorem pos_le {K : Type} {lt : K → K → Bool} {V : Type} (es : List (K × V)) (k : K) : posL lt es k ≤ es.length := List.length_filter_le _ _
theorem pos_iff (H : STO lt) {es : List (K × V)} (hs : Srt lt es) (k : K) : ∀ j x, es[j]? = some x → (lt x.1 k = true ↔ j < posL lt es k) := by
  have key : ∀ (lo rest : List (K × V)), (∀ x ∈ lo, lt x.1 k = true) → (∀ x ∈ rest, lt x.1 k = false) → ∀ j x, (lo ++ rest)[j]? = some x → (lt x.1 k = true ↔ j < lo.length) := by
    intro lo rest h1 h2 j x hx
    rcases Nat.lt_or_ge j lo.length with h | h
    · rw [List.getElem?_append_left h] at hx
      exact ⟨fun _ => h, fun _ => h1 x (List.mem_of_getElem? hx)⟩
    · rw [List.getElem?_append_right h] at hx
      have := h2 x (List.mem_of_getElem? hx)
      exact ⟨fun q => (by rw [this] at q; cases q), fun q => by omega⟩
  have hhi : ∀ x ∈ hiL lt es k, lt x.1 k = false := fun x hx => H.asym (hi_lt x hx)
  rcases cut_at14 H es k hs with ⟨v, _, e⟩ | ⟨_, e⟩
  · have := key (loL lt es k) ((k, v) :: hiL lt es k) lo_lt (fun x hx => by
      rcases List.mem_cons.1 hx with rfl | hx
      · exact H.irr _
      · exact hhi x hx)
    rwa [← e] at this
  · have := key (loL lt es k) (hiL lt es k) lo_lt hhi
    rwa [← e] at this
theorem at_pos_some (H : STO lt) {es : List (K × V)} (hs : Srt lt es) {k : K} {v : V} (hg : getL es k = some v) : es[posL lt es k]? = some (k, v) ∧ es[posL lt es k + 1]? = (hiL lt es k).head? ∧ es.take (posL lt es k) = loL lt es k ∧ es.drop (posL lt es k + 1) = hiL lt es k := by
  rcases cut_at14 H es k hs with ⟨u, q, e⟩ | ⟨q, _⟩
  · rw [hg] at q
    obtain rfl : v = u := by simpa using q
    have hl : (loL lt es k).length = posL lt es k := rfl
    generalize posL lt es k = p at *
    generalize loL lt es k = lo at *
    generalize hiL lt es k = hi at *
    subst e hl
    refine ⟨by simp, ?_, by simp, ?_⟩
    · rw [List.getElem?_append_right (by omega), show lo.length + 1 - lo.length = 1 by omega, List.getElem?_cons_succ, List.head?_eq_getElem?]
    · rw [show lo ++ (k, v) :: hi = (lo ++ [(k, v)]) ++ hi by simp, show lo.length + 1 = (lo ++ [(k, v)]).length by simp, List.drop_left]
  · rw [hg] at q; cases q
theorem at_pos_none (H : STO lt) {es : List (K × V)} (hs : Srt lt es) {k : K} (hg : getL es k = none) : es[posL lt es k]? = (hiL lt es k).head? ∧ es.take (posL lt es k) = loL lt es k ∧ es.drop (posL lt es k) = hiL lt es k := by
  rcases cut_at14 H es k hs with ⟨u, q, e⟩ | ⟨_, e⟩
  · rw [hg] at q; cases q
  · have hl : (loL lt es k).length = posL lt es k := rfl
    generalize posL lt es k = p at *
    generalize loL lt es k = lo at *
    generalize hiL lt es k = hi at *
    subst e hl
    refine ⟨?_, by simp, by simp⟩
    rw [List.getElem?_append_right (by omega), Nat.sub_self, List.head?_eq_getElem?]
/-- put; taken away -/
def putL (lt : K → K → Bool) (es : List (K × V)) (k : K) (v : V) : List (K × V) := loL lt es k ++ (k, v) :: hiL lt es k
def delL (lt : K → K → Bool) (es : List (K × V)) (k : K) : List (K × V) := loL lt es k ++ hiL lt es k
theorem srt_lo_hi (H : STO lt) {es : List (K × V)} (hs : Srt lt es) (k : K) : Srt lt (loL lt es k) ∧ Srt lt (hiL lt es k) ∧ (∀ a ∈ loL lt es k, ∀ b ∈ hiL lt es k, lt a.1 b.1 = true) :=
  ⟨List.Pairwise.filter _ hs, List.Pairwise.filter _ hs, fun a ha b hb => H.trans _ _ _ (lo_lt a ha) (hi_lt b hb)⟩
theorem srt_put (H : STO lt) {es : List (K × V)} (hs : Srt lt es) (k : K) (v : V) : Srt lt (putL lt es k v) := by
  obtain ⟨h1, h2, h3⟩ := srt_lo_hi H hs k
  refine List.pairwise_append.2 ⟨h1, List.pairwise_cons.2 ⟨fun b hb => hi_lt b hb, h2⟩, fun a ha b hb => ?_⟩
  rcases List.mem_cons.1 hb with rfl | hb
  · exact lo_lt a ha
  · exact h3 a ha b hb
theorem srt_del (H : STO lt) {es : List (K × V)} (hs : Srt lt es) (k : K) : Srt lt (delL lt es k) := by
  obtain ⟨h1, h2, h3⟩ := srt_lo_hi H hs k
  exact List.pairwise_append.2 ⟨h1, h2, h3⟩
theorem srt_map {K : Type} {lt : K → K → Bool} {V : Type} {W : Type} (f : V → W) {es : List (K × V)} : Srt lt (es.map fun e => (e.1, f e.2)) ↔ Srt lt es := by
  unfold Srt
  rw [List.pairwise_map]
theorem cut_of14 (H : STO lt) {A B : List (K × V)} {k : K} {v : V} (hs : Srt lt (A ++ (k, v) :: B)) : loL lt (A ++ (k, v) :: B) k = A ∧ hiL lt (A ++ (k, v) :: B) k = B ∧ getL (A ++ (k, v) :: B) k = some v := by
  obtain ⟨h1, h2, h3⟩ := List.pairwise_append.1 hs
  obtain ⟨h4, h5⟩ := List.pairwise_cons.1 h2
  have hA : ∀ a ∈ A, lt a.1 k = true := fun a ha => h3 a ha (k, v) (by simp)
  refine ⟨?_, ?_, ?_⟩
  · unfold loL
    rw [List.filter_append, List.filter_eq_self.2 hA, List.filter_cons_of_neg (by simp [H.irr]), List.filter_eq_nil_iff.2 (fun b hb => by rw [H.asym (h4 b hb)]; simp), List.append_nil]
  · unfold hiL
    rw [List.filter_append, List.filter_eq_nil_iff.2 (fun a ha => by rw [H.asym (hA a ha)]; simp), List.filter_cons_of_neg (by simp [H.irr]), List.filter_eq_self.2 (fun b hb => h4 b hb), List.nil_append]
  · unfold getL
    rw [List.find?_append, List.find?_eq_none.2 (fun a ha => by
      have := hA a ha
      simp only [decide_eq_true_eq]
      rintro rfl
      rw [H.irr] at this; cases this)]
    simp
/-- what lies above a key of a list that is cut there -/
theorem hi_app {K : Type} {lt : K → K → Bool} {V : Type} (H : STO lt) {k : K} {lo hi : List (K × V)} (h1 : ∀ x ∈ lo, lt k x.1 = false) (h2 : ∀ x ∈ hi, lt k x.1 = true) : hiL lt (lo ++ hi) k = hi := by
  unfold hiL
  rw [List.filter_append, List.filter_eq_nil_iff.2 (fun x hx => by rw [h1 x hx]; simp), List.filter_eq_self.2 h2]
  rfl
end
theorem least14 {α β : Type} (p : α → β → Nat → Prop) : ∃ ms : α → β → Nat, ∀ a b, (∃ n, p a b n) → p a b (ms a b) ∧ ∀ n, p a b n → ms a b ≤ n := by
  have : ∀ a b, ∃ m, (∃ n, p a b n) → p a b m ∧ ∀ n, p a b n → m ≤ n := fun a b => by
    have key : ∀ n, p a b n → ∃ m, p a b m ∧ ∀ n, p a b n → m ≤ n := fun n => by
      induction n using Nat.strongRecOn with
      | ind n ih =>
        intro h
        by_cases q : ∃ k, k < n ∧ p a b k
        · obtain ⟨k, hk, hp⟩ := q
          exact ih k hk hp
        · exact ⟨n, h, fun k hk => Nat.le_of_not_lt (fun hl => q ⟨k, hl, hk⟩)⟩
    by_cases h : ∃ n, p a b n
    · obtain ⟨n, hn⟩ := h
      obtain ⟨m, hm⟩ := key n hn
      exact ⟨m, fun _ => hm⟩
    · exact ⟨0, fun q => absurd q h⟩
  exact ⟨fun a b => Classical.choose (this a b), fun a b => Classical.choose_spec (this a b)⟩
end Go.Proofs.YtedcdhngiofpjaaGreatDoor
