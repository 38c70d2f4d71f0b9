/- store: a sorted map's insert, drop at any map. -/
import Derived.Test.YtedcdhngiofpjaaGreatDoorSrS
import Derived.Test.YtedcdhngiofpjaaGreatDoorMc
import Derived.Test.YtedcdhngiofpjaaGreatDoorSxI
import Derived.Shelf.RegionOpen
import Derived.TacticsInMore
import Derived.LoopNIn
import Derived.LoopIn
namespace Go.Proofs.YtedcdhngiofpjaaGreatDoor
open Go Go.Proofs Go.RowKit Go.Shelf
set_option maxRecDepth 100000
theorem insertS_map (sb off : Nat) (cs : Array Value) (T : TypeId) (v : Value) (es : List EnS) (O : List Nat) (p : Nat) (x : EnS) (w : World) (hS : w.heap[sb]? = some (.cells cs T (0, 0))) (hv : cs[off]? = some v)
    (hM : MapS w v es O) (hsb : sb ∉ O) (hz : es.length ≤ 100) (hp : p ≤ es.length) :
    Calls Tryz.prog 69 #[.pointer (some ⟨sb, off, none⟩), .int .i64 0, .int .i64 (p : Int), .agg #[.string ⟨List.toArray x.1⟩, .pointer (some ⟨x.2, 0, none⟩)]] w fun e w' => (∃ r, e = .returned r) ∧ PutSPost sb off cs T (es.take p ++ x :: es.drop p) O w w' := by
  rcases hM with ⟨rfl, rfl, a, c, rfl⟩ | ⟨h1, R, E, cap, rfl, rfl, h3, h4⟩
  · obtain rfl : p = 0 := by simpa using hp
    exact insertS_nil sb off cs T a c x w hS hv
  · exact insertS_row sb off R E cap cs T es hz p hp x w hS hv h3 h4 (fun e => hsb (by simp [e])) (fun e => hsb (by simp [e]))
set_option maxHeartbeats 4000000 in
theorem rdelS_any (R : Nat) (v : Value) (w : World) (hR : w.heap[R]? = some (.cells #[v] TLS (0, 0))) :
    Calls Tryz.prog 82 #[.slice (some ⟨R, 0, none⟩) 1 1, .int .i64 0, .int .i64 1] w fun e w' => e = .returned (.slice (some ⟨R, 0, none⟩) 0 1) ∧ w' = w.drew.setCell ⟨R, 0, none⟩ (.slice none 0 0) := by
  obtain ⟨i0, hi0, hz0, hz1, hz2⟩ := info_parts (show (Tryz.prog.info? TLS).map (fun i => (i.zero, i.size, i.bytes)) = some (some (.slice none 0 0), 1, 24) by kernel_rfl)
  obtain ⟨W1, hW1⟩ : ∃ W1, W1 = w.drew.setCells R (0 + 0 * 1) [] := ⟨_, rfl⟩
  have hWd : W1 = w.drew := hW1
  have hcl : ∀ ty, (Builtin.clear_ #[TRS] ty #[.slice (some ⟨R, 0, none⟩) 1 1]).run Tryz.prog W1 = .ok (.tuple #[]) (W1.setCells R 0 (List.replicate 1 (.slice none 0 0))) := fun ty => by
    rw [hWd]
    exact Lib.run_clear_slice w.drew _ _ ty _ Tryz.underlying81 Tryz.zeroValue143 rfl rfl R 0 _ _ (by omega) (fun t ht => by
      obtain rfl : t = 0 := by omega
      rw [cell_of_row w.drew R 0 _ _ _ hR]; rfl) (fun t _ => frozen_of_row w.drew R _ _ _ hR)
  obtain ⟨W2, hW2⟩ : ∃ W2, W2 = W1.setCells R 0 (List.replicate 1 (.slice none 0 0)) := ⟨_, rfl⟩
  rw [← hW2] at hcl
  have HQ := Lib.hid (show W2 = w.drew.setCell ⟨R, 0, none⟩ (.slice none 0 0) by rw [hW2, hWd]; rfl)
  have hW : Hid (W1 = w.drew.setCells R (0 + 0 * 1) []) := hW1
  have hs3 : Hid (∀ t, t < ([] : List Value).length → (w.drew.cell? ⟨R, 0 + 0 * 1 + t, none⟩).isSome = true ∧ w.drew.frozen? ⟨R, 0 + 0 * 1 + t, none⟩ = false) := fun t ht => absurd ht (Nat.not_lt_zero _)
  clear hR hW1 hWd hW2
  go_enter Tryz.func82, Tryz.ntmps82
  go_wp2_with fail
  go_region_law (refine step_append_room rfl (.tmp 22) (.tmp 25) TRS rfl TLS i0 1 Tryz.underlying81 hi0 hz1 R 0 0 1 (by simp [Act.eval, Act.put]) ⟨R, 0, none⟩ 0 0 [] (by simp [Act.eval, Act.put]) rfl (fun j u h => by simp at h) (fun u h => by simp at h) (by omega) hs3.out ?_; rw [← hW.out])
  go_wp2
  go_ret
  exact ⟨rfl, HQ.out⟩
/-- what drop leaves -/
def DrpSPost (sb off : Nat) (cs : Array Value) (T : TypeId) (es : List EnS) (O : List Nat) (w w' : World) : Prop :=
  ∃ v' O', w'.heap[sb]? = some (.cells (cs.setIfInBounds off v') T (0, 0)) ∧ MapS w' v' es O' ∧ Turn (sb :: O) w w' ∧ ∀ b ∈ O', b ∈ O
set_option maxHeartbeats 8000000 in
theorem dropS_any (sb off : Nat) (cs : Array Value) (T : TypeId) (v : Value) (es : List EnS) (O : List Nat) (t : (List UInt8)) (p : Nat) (w : World) (hS : w.heap[sb]? = some (.cells cs T (0, 0))) (hv : cs[off]? = some v)
    (hM : MapS w v es O) (hsb : sb ∉ O) (hz : es.length ≤ 100) (hp : p < es.length) (hP : ∀ k x, es[k]? = some x → (ltS x.1 t = true ↔ k < p)) (hh : hereS es p t = true) :
    Calls Tryz.prog 44 #[.pointer (some ⟨sb, off, none⟩), .string ⟨List.toArray t⟩] w fun e w' => (∃ r, e = .returned r) ∧ DrpSPost sb off cs T (es.take p ++ es.drop (p + 1)) O w w' := by
  rcases hM with ⟨rfl, rfl, a, c, rfl⟩ | ⟨h1, R, E, cap, rfl, rfl, hR, hE⟩
  · cases hp
  obtain ⟨n, hn⟩ : ∃ n, es.length = n + 1 := ⟨es.length - 1, by omega⟩
  obtain ⟨hc, hf⟩ := cell_blkS hS hv
  have hl : sb < w.heap.size := (Array.getElem?_eq_some_iff.1 hS).1
  have hlR : R < w.heap.size := (Array.getElem?_eq_some_iff.1 hR).1
  have hlE : E < w.heap.size := hE.lt
  have hRE : R ≠ E := by
    rintro rfl
    obtain ⟨cur, q1, _⟩ := hE
    have := q1.symm.trans hR
    simp [TES, TLS] at this
  have hsR : sb ≠ R := fun e => hsb (by simp [e])
  have hsE : sb ≠ E := fun e => hsb (by simp [e])
  rw [hn] at hR
  have HN := Lib.hid (placeS_row sb off R E cap n es (by omega) hn t p (by omega) hP w hc ((cell_of_row w R 0 _ _ _ hR).trans rfl) hE)
  rw [hh] at HN
  have hD : ∀ W : World, (∀ k, k < w.heap.size → W.heap[k]? = w.heap[k]?) → Calls Tryz.prog 81 #[.slice (some ⟨E, 0, none⟩) (n + 1) cap, .int .i64 (p : Int), .int .i64 ((p : Int) + 1)] W (DelSPost (es.take p ++ es.drop (p + 1)) E cap W) := fun W hW =>
    deleteS_any E cap n es p W (by omega) hn (by omega) (hE.keep (hW E hlE))
  have hlen : (es.take p ++ es.drop (p + 1)).length = n := by rw [List.length_append, List.length_take, List.length_drop, hn]; omega
  have hF : ∀ W : World, Below w.heap.size w W → W.cell? ⟨sb, off, none⟩ = some (.slice (some ⟨R, 0, none⟩) 1 1) ∧ W.frozen? ⟨sb, off, none⟩ = false ∧ W.cell? ⟨R, 0, none⟩ = some (.slice (some ⟨E, 0, none⟩) (n + 1) cap) := fun W hb =>
    ⟨(hb.cell (p := ⟨sb, off, none⟩) hl).trans hc, (hb.frozen (p := ⟨sb, off, none⟩) hl).trans hf, (hb.cell (p := ⟨R, 0, none⟩) hlR).trans ((cell_of_row w R 0 _ _ _ hR).trans rfl)⟩
  have hG : ∀ W W3 : World, Below w.heap.size w W → Turn [E] W W3 → W3.cell? ⟨sb, off, none⟩ = some (.slice (some ⟨R, 0, none⟩) 1 1) ∧ W3.frozen? ⟨sb, off, none⟩ = false ∧ W3.cell? ⟨R, 0, none⟩ = some (.slice (some ⟨E, 0, none⟩) (n + 1) cap) ∧ W3.frozen? ⟨R, 0, none⟩ = false := fun W W3 hb ht => by
    have e1 := (ht.block sb (Nat.lt_of_lt_of_le hl hb.size) (by simpa using hsE)).trans (hb.block sb hl)
    have e2 := (ht.block R (Nat.lt_of_lt_of_le hlR hb.size) (by simpa using hRE)).trans (hb.block R hlR)
    exact ⟨(World.cell?_of_block (a := ⟨sb, off, none⟩) e1).trans hc, (World.frozen?_of_block (a := ⟨sb, off, none⟩) e1).trans hf, (cell_of_row W3 R 0 _ _ _ (e2.trans hR)).trans rfl, frozen_of_row W3 R 0 _ _ (e2.trans hR)⟩
  -- what is left
  have hPo : ∀ W W3 : World, Below w.heap.size w W → DelSPost (es.take p ++ es.drop (p + 1)) E cap W (.returned (.slice (some ⟨E, 0, none⟩) n cap)) W3 → 0 < n → DrpSPost sb off cs T (es.take p ++ es.drop (p + 1)) [R, E] w (W3.setCell ⟨R, 0, none⟩ (.slice (some ⟨E, 0, none⟩) n cap)) := fun W W3 hb hd hn0 => by
    obtain ⟨_, hr, ht⟩ := hd
    have t3 : Turn [E] w W3 := (Turn.of_below hb [E]).trans ht (fun _ h => .inl h)
    refine ⟨.slice (some ⟨R, 0, none⟩) 1 1, [R, E], ?_, .inr ⟨?_, R, E, cap, rfl, rfl, ?_, ?_⟩, ?_, fun _ h => h⟩
    · rw [Below.heap_setCell _ _ _ _ (by dsimp only; omega), t3.block sb hl (by simpa using hsE), hS, set_same14 hv]
    · intro e
      rw [e] at hlen
      simp at hlen
      omega
    · rw [hlen]
      have := blk_set14 (t3.at (b := R) (by simpa using hRE) hR) 0 (.slice (some ⟨E, 0, none⟩) n cap)
      simpa using this
    · exact hr.keep (Below.heap_setCell _ _ _ _ (by dsimp only; omega))
    · exact (t3.mono (fun b h => by simp at h; simp [h])).trans (Turn.set _ R 0 _) (fun b h => .inl (by simp at h; simp [h]))
  have hPz : ∀ W W3 : World, Below w.heap.size w W → Turn [E] W W3 → n = 0 → DrpSPost sb off cs T (es.take p ++ es.drop (p + 1)) [R, E] w (((W3.setCell ⟨R, 0, none⟩ (.slice (some ⟨E, 0, none⟩) n cap)).drew.setCell ⟨R, 0, none⟩ (.slice none 0 0)).setCell ⟨sb, off, none⟩ (.slice (some ⟨R, 0, none⟩) 0 1)) := fun W W3 hb ht hn0 => by
    have t3 : Turn [E] w W3 := (Turn.of_below hb [E]).trans ht (fun _ h => .inl h)
    refine ⟨.slice (some ⟨R, 0, none⟩) 0 1, [], ?_, .inl ⟨?_, rfl, _, _, rfl⟩, ?_, fun _ h => nomatch h⟩
    · refine blk_set14 ?_ _ _
      rw [Below.heap_setCell _ _ _ _ (by dsimp only; omega)]
      show (W3.setCell ⟨R, 0, none⟩ (.slice (some ⟨E, 0, none⟩) n cap)).heap[sb]? = _
      rw [Below.heap_setCell _ _ _ _ (by dsimp only; omega), t3.block sb hl (by simpa using hsE), hS]
    · exact List.eq_nil_of_length_eq_zero (by omega)
    · exact (((t3.mono (fun b h => by simp at h; simp [h])).trans (Turn.set _ R 0 _) (fun b h => .inl (by simp at h; simp [h]))).drew.trans (Turn.set _ R 0 _) (fun b h => .inl (by simp at h; simp [h]))).trans (Turn.set _ sb off _) (fun b h => .inl (by simp at h; simp [h]))
  have hRd : ∀ W3 : World, Turn [E] w W3 → (W3.setCell ⟨R, 0, none⟩ (.slice (some ⟨E, 0, none⟩) n cap)).heap[R]? = some (.cells #[.slice (some ⟨E, 0, none⟩) n cap] TLS (0, 0)) := fun W3 t3 => by
    have := blk_set14 (t3.at (b := R) (by simpa using hRE) hR) 0 (.slice (some ⟨E, 0, none⟩) n cap)
    simpa using this
  have HD := Lib.hid hD
  have HF := Lib.hid hF
  have HG := Lib.hid hG
  have HPo := Lib.hid hPo
  have HPz := Lib.hid hPz
  have HRd := Lib.hid hRd
  have HL := Lib.hid hlen
  have hw1 : IntKind.i64.wrap ((p : Int) + 1) = (p : Int) + 1 := by rw [IntKind.wrap_i64]; omega
  have hw2 : wrap64 ((p : Int) + 1) = (p : Int) + 1 := by rw [wrap64]; omega
  have hl2 : Hid (sb < w.heap.size ∧ R < w.heap.size) := ⟨hl, hlR⟩
  clear hD hF hG hPo hPz hRd hS hv hR hE hl hlR hlE hc hf hsE hRE hh hP hlen h1 hsb hp hz hn
  go_enter Tryz.func44, Tryz.ntmps44
  go_wp2_with fail
  refine HN.out.mono ?_
  rintro e w1 ⟨rfl, hb1⟩
  obtain ⟨c1, c2, c3⟩ := HF.out w1 hb1
  have hs1 : sb < w1.heap.size := Nat.lt_of_lt_of_le hl2.out.1 hb1.size
  have hs2 : R < w1.heap.size := Nat.lt_of_lt_of_le hl2.out.2 hb1.size
  have HD1 := Lib.hid (HD.out w1.drew (fun k hk => hb1.block k hk))
  have HB1 := Lib.hid (show Below w.heap.size w w1.drew from hb1.drew)
  clear HN HD HF hb1
  go_wp2
  go_region_with (first | (go_at_call 81; refine HD1.out.mono ?_; rintro e W3 hdp; have hdr := hdp.1; rw [HL.out] at hdr; subst hdr; obtain ⟨g1, g2, g3, g4⟩ := HG.out _ W3 HB1.out hdp.2.2; have HDP := Lib.hid hdp; clear hdp))
  all_goals
    clear c1 c2 c3 HD1
    have hs3 : Hid (Turn [E] w W3) := (Turn.of_below HB1.out [E]).trans HDP.out.2.2 (fun _ h => .inl h)
    by_cases hn0 : n = 0
    · subst hn0
      have HR2 := Lib.hid (rdelS_any R _ _ (HRd.out W3 hs3.out))
      have HZ := Lib.hid (HPz.out _ W3 HB1.out HDP.out.2.2 rfl)
      clear HRd HPz HPo HG HL HDP HB1 hs3
      go_wp2_with fail
      refine HR2.out.mono ?_
      rintro e w5 ⟨rfl, rfl⟩
      go_wp2
      go_end0
      exact ⟨⟨_, rfl⟩, HZ.out⟩
    · have HZ := Lib.hid (HPo.out _ W3 HB1.out HDP.out (by omega))
      have hn1 : ¬ (n : Int) = 0 := by omega
      clear HRd HPz HPo HG HL HDP HB1 hs3
      go_wp2
      go_end0
      exact ⟨⟨_, rfl⟩, HZ.out⟩
end Go.Proofs.YtedcdhngiofpjaaGreatDoor
/- store: a sorted map's get, at. -/
namespace Go.Proofs.YtedcdhngiofpjaaGreatDoor
open Go Go.Proofs Go.RowKit Go.Shelf
set_option maxRecDepth 100000
def zvS : Array Value := #[.slice none 0 0, .slice none 0 0]
theorem zeroVS : ∀ w, (zeroValue 92).run Tryz.prog w = .ok (.agg zvS) w := fun w => by kernel_rfl
theorem placeS_map (sb off : Nat) (v : Value) (es : List EnS) (O : List Nat) (hz : es.length ≤ 1000) (t : (List UInt8)) (p : Nat) (hp : p ≤ es.length) (hP : ∀ k x, es[k]? = some x → (ltS x.1 t = true ↔ k < p)) (w : World)
    (hc : w.cell? ⟨sb, off, none⟩ = some v) (hM : MapS w v es O) :
    Calls Tryz.prog 68 #[.pointer (some ⟨sb, off, none⟩), .string ⟨List.toArray t⟩] w (PlSPost p (hereS es p t) w) := by
  rcases hM with ⟨rfl, rfl, a, c, rfl⟩ | ⟨h1, R, E, cap, rfl, rfl, h3, h4⟩
  · obtain rfl : p = 0 := by simpa using hp
    exact placeS_nil sb off a c t w hc
  · obtain ⟨n, hn⟩ : ∃ n, es.length = n + 1 := ⟨es.length - 1, by cases es <;> simp at *⟩
    rw [hn] at h3
    exact placeS_row sb off R E cap n es hz hn t p hp hP w hc ((cell_of_row w R 0 _ _ _ h3).trans rfl) h4
theorem nextS_map (sb off : Nat) (v : Value) (es : List EnS) (O : List Nat) (hz : es.length ≤ 1000) (t : (List UInt8)) (p : Nat) (hp : p ≤ es.length) (hP : ∀ k x, es[k]? = some x → (ltS x.1 t = true ↔ k < p)) (w : World)
    (hc : w.cell? ⟨sb, off, none⟩ = some v) (hM : MapS w v es O) :
    Calls Tryz.prog 79 #[.pointer (some ⟨sb, off, none⟩), .string ⟨List.toArray t⟩] w (NxSPost (es[if hereS es p t then p + 1 else p]?) w) := by
  rcases hM with ⟨rfl, rfl, a, c, rfl⟩ | ⟨h1, R, E, cap, rfl, rfl, h3, h4⟩
  · have : ([] : List EnS)[if hereS [] p t then p + 1 else p]? = none := by simp
    rw [this]
    exact nextS_nil sb off a c t w hc
  · obtain ⟨n, hn⟩ : ∃ n, es.length = n + 1 := ⟨es.length - 1, by cases es <;> simp at *⟩
    rw [hn] at h3
    exact nextS_row sb off R E cap n es hz hn t p hp hP w hc ((cell_of_row w R 0 _ _ _ h3).trans rfl) h4 _ rfl
/-- what at tells: the block of the value, as it was or new -/
def AtSPost (sb off : Nat) (cs : Array Value) (T : TypeId) (es : List EnS) (O : List Nat) (t : (List UInt8)) (p : Nat) (w : World) (e : Ending) (w' : World) : Prop :=
  e = .returned (.pointer (some ⟨w.heap.size, 0, none⟩)) ∧ PutSPost sb off cs T (es.take p ++ (t, w.heap.size) :: es.drop p) O w w' ∧ w'.heap[w.heap.size]? = some (.cells zvS 92 (0, 0))
theorem atS_old (sb off : Nat) (v : Value) (es : List EnS) (O : List Nat) (hz : es.length ≤ 1000) (t : (List UInt8)) (p : Nat) (hP : ∀ k x, es[k]? = some x → (ltS x.1 t = true ↔ k < p)) (vb : Nat) (hx : es[p]? = some (t, vb)) (w : World)
    (hc : w.cell? ⟨sb, off, none⟩ = some v) (hM : MapS w v es O) :
    Calls Tryz.prog 34 #[.pointer (some ⟨sb, off, none⟩), .string ⟨List.toArray t⟩] w fun e w' => e = .returned (.pointer (some ⟨vb, 0, none⟩)) ∧ Below w.heap.size w w' := by
  have hpl : p < es.length := (List.getElem?_eq_some_iff.1 hx).1
  have HN := Lib.hid (placeS_map sb off v es O hz t p (by omega) hP w hc hM)
  rw [show hereS es p t = true by unfold hereS; rw [hx]; simp] at HN
  rcases hM with ⟨rfl, rfl, a, c, rfl⟩ | ⟨h1, R, E, cap, rfl, rfl, h3, h4⟩
  · cases hpl
  have HF := Lib.hid (show ∀ W, Below w.heap.size w W → W.cell? ⟨sb, off, none⟩ = some (.slice (some ⟨R, 0, none⟩) 1 1) ∧ W.cell? ⟨R, 0, none⟩ = some (.slice (some ⟨E, 0, none⟩) es.length cap) ∧ W.cell? ⟨E, p * 2 + 1, none⟩ = some (.pointer (some ⟨vb, 0, none⟩)) from fun W hb =>
    ⟨(hb.cell (p := ⟨sb, off, none⟩) (World.block_lt_of_cell? w _ hc)).trans hc, (hb.cell (p := ⟨R, 0, none⟩) (Array.getElem?_eq_some_iff.1 h3).1).trans ((cell_of_row w R 0 _ _ _ h3).trans rfl), ((h4.below hb).cell hx).2⟩)
  have q1 : (p : Int) < (es.length : Int) := by omega
  have q2 : (0 : Int) ≤ (p : Int) := by omega
  clear h3 h4 hP hx hc h1 hpl
  go_enter Tryz.func34, Tryz.ntmps34
  go_wp2_with fail
  refine HN.out.mono ?_
  rintro e w1 ⟨rfl, hb1⟩
  obtain ⟨c1, c2, c3⟩ := HF.out w1 hb1
  have HB := Lib.hid hb1
  clear hb1 HF HN
  go_wp2
  go_ret
  exact ⟨rfl, HB.out⟩
set_option maxHeartbeats 4000000 in
theorem atS_new (sb off : Nat) (cs : Array Value) (T : TypeId) (v : Value) (es : List EnS) (O : List Nat) (hz : es.length ≤ 100) (t : (List UInt8)) (p : Nat) (hp : p ≤ es.length) (hP : ∀ k x, es[k]? = some x → (ltS x.1 t = true ↔ k < p)) (hh : hereS es p t = false) (w : World)
    (hS : w.heap[sb]? = some (.cells cs T (0, 0))) (hv : cs[off]? = some v) (hM : MapS w v es O) (hsb : sb ∉ O) :
    Calls Tryz.prog 34 #[.pointer (some ⟨sb, off, none⟩), .string ⟨List.toArray t⟩] w (fun e w' => ∃ N, w.heap.size ≤ N ∧ e = .returned (.pointer (some ⟨N, 0, none⟩)) ∧ PutSPost sb off cs T (es.take p ++ (t, N) :: es.drop p) O w w' ∧ w'.heap[N]? = some (.cells zvS 92 (0, 0))) := by
  have hl : sb < w.heap.size := (Array.getElem?_eq_some_iff.1 hS).1
  have HN := Lib.hid (placeS_map sb off v es O (by omega) t p (by omega) hP w (cell_blkS hS hv).1 hM)
  rw [hh] at HN
  have HI := Lib.hid (show ∀ W, Below w.heap.size w W → Calls Tryz.prog 69 #[.pointer (some ⟨sb, off, none⟩), .int .i64 0, .int .i64 (p : Int), .agg #[.string ⟨List.toArray t⟩, .pointer (some ⟨W.heap.size, 0, none⟩)]] (W.alloc (.cells zvS 92)) fun e w' => (∃ r, e = .returned r) ∧ PutSPost sb off cs T (es.take p ++ (t, W.heap.size) :: es.drop p) O w w' ∧ w'.heap[W.heap.size]? = some (.cells zvS 92 (0, 0)) ∧ W.heap.size < w'.heap.size from fun W hb => by
    have hb2 : Below w.heap.size w (W.alloc (.cells zvS 92)) := below_new hb _
    refine (insertS_map sb off cs T v es O p (t, W.heap.size) _ ((hb2.block sb hl).trans hS) hv (hM.below hb2) hsb hz hp).mono ?_
    rintro e w' ⟨hr, v', O', h1, h2, h3, h4⟩
    have hsz := hb.size
    refine ⟨hr, ⟨v', O', h1, h2, ((Turn.of_below hb2 _).trans h3 (fun _ h => .inl h)), fun b hb' => ?_⟩, ?_, ?_⟩
    · rcases h4 b hb' with q | q
      · exact .inl q
      · exact .inr (by simp at q; omega)
    · refine h3.at ?_ (heap_alloc_new W _)
      intro hm
      rcases List.mem_cons.1 hm with q | q
      · omega
      · have := hM.lt _ q; omega
    · have := h3.size; simp at this; omega)
  have hz0 := zeroVS
  have hzn : zvS ≠ #[] := by unfold zvS; decide
  have HP := Lib.hid (show ∀ N w', w.heap.size ≤ N → PutSPost sb off cs T (es.take p ++ (t, N) :: es.drop p) O w w' → w'.heap[N]? = some (.cells zvS 92 (0, 0)) → ∃ N', w.heap.size ≤ N' ∧ Ending.returned (.pointer (some ⟨N, 0, none⟩)) = .returned (.pointer (some ⟨N', 0, none⟩)) ∧ PutSPost sb off cs T (es.take p ++ (t, N') :: es.drop p) O w w' ∧ w'.heap[N']? = some (.cells zvS 92 (0, 0)) from fun N w' h1 h2 h3 => ⟨N, h1, rfl, h2, h3⟩)
  generalize zvS = ZV at *
  clear hS hv hM hP hh hsb hp hz hl
  go_enter Tryz.func34, Tryz.ntmps34
  go_wp2_with fail
  refine HN.out.mono ?_
  rintro e w1 ⟨rfl, hb1⟩
  have HI1 := Lib.hid (HI.out w1 hb1)
  have HS1 := Lib.hid hb1.size
  clear HN HI hb1
  go_wp2_with fail
  refine HI1.out.mono ?_
  rintro e w2 ⟨⟨r, rfl⟩, h1, h2, h3⟩
  have HQ := Lib.hid (HP.out _ w2 HS1.out h1 h2)
  clear h1 h2 h3 HP HI1
  go_wp2
  go_ret
  exact HQ.out
end Go.Proofs.YtedcdhngiofpjaaGreatDoor
/- store: a sorted map's above: the iterator's contract. -/
namespace Go.Proofs.YtedcdhngiofpjaaGreatDoor
open Go Go.Proofs Go.RowKit Go.Shelf
set_option maxRecDepth 100000
attribute [local go_sem] Oper.semAt_some
theorem nextS_hi (sb off : Nat) (v : Value) (es : List EnS) (O : List Nat) (hz : es.length ≤ 1000) (hs : Srt ltS es) (t : (List UInt8)) (w : World)
    (hc : w.cell? ⟨sb, off, none⟩ = some v) (hM : MapS w v es O) :
    Calls Tryz.prog 79 #[.pointer (some ⟨sb, off, none⟩), .string ⟨List.toArray t⟩] w (NxSPost (hiL ltS es t).head? w) := by
  have h := nextS_map sb off v es O hz t (posL ltS es t) (pos_le _ _) (pos_iff stoS hs t) w hc hM
  suffices e : es[if hereS es (posL ltS es t) t then posL ltS es t + 1 else posL ltS es t]? = (hiL ltS es t).head? by rwa [e] at h
  cases hg : getL es t with
  | some b =>
    obtain ⟨q1, q2, _⟩ := at_pos_some stoS hs hg
    have : hereS es (posL ltS es t) t = true := by unfold hereS; rw [q1]; simp
    rw [this, if_pos rfl, q2]
  | none =>
    obtain ⟨q1, _⟩ := at_pos_none stoS hs hg
    have : hereS es (posL ltS es t) t = false := by
      unfold hereS
      rw [q1]
      split
      · rename_i x hx
        have := hi_lt x (List.mem_of_head? hx)
        simp only [decide_eq_false_iff_not]
        rintro rfl
        rw [stoS.irr] at this; cases this
      · rfl
    rw [this]
    simpa using q1
theorem aboveS_any (m : Option Addr) (k : (List UInt8)) (w : World) :
    Calls Tryz.prog 41 #[.pointer m, .string ⟨List.toArray k⟩] w fun e w' => e = .returned (.func (.func 78) #[] #[.pointer (some ⟨w.heap.size, 0, none⟩), .pointer (some ⟨w.heap.size + 1, 0, none⟩)]) ∧ w' = (w.alloc (.cells #[.pointer m] 138)).alloc (.cells #[.string ⟨List.toArray k⟩] 9) := by
  go_enter Tryz.func41, Tryz.ntmps41
  go_wp2
  go_ret
  exact ⟨rfl, rfl⟩
abbrev StS := (List UInt8) × List EnS
def nxS : StS → Option (EnS × StS)
  | (_, []) => none
  | (_, x :: r) => some (x, (x.1, r))
def enS (x : EnS) : Array Value := #[.string ⟨List.toArray x.1⟩, .pointer (some ⟨x.2, 0, none⟩)]
/-- what the iterator needs of memory: the map's variable, the map, what is still to come -/
def PreS (B1 sb off : Nat) (s : StS) (W : World) : Prop :=
  W.cell? ⟨B1, 0, none⟩ = some (.pointer (some ⟨sb, off, none⟩)) ∧ ∃ v es O, W.cell? ⟨sb, off, none⟩ = some v ∧ MapS W v es O ∧ es.length ≤ 1000 ∧ Srt ltS es ∧ hiL ltS es s.1 = s.2
theorem nx_casesS (r : List EnS) : ∃ (kk : (List UInt8)) (pp : Option Addr) (b : Bool), nxVS r.head? = .tuple #[.agg #[.string ⟨List.toArray kk⟩, .pointer pp], .bool b] ∧ ((b = true ∧ ∃ vb r', r = (kk, vb) :: r' ∧ pp = some ⟨vb, 0, none⟩) ∨ (b = false ∧ r = [])) := by
  cases r with
  | nil => exact ⟨[], none, false, rfl, .inr ⟨rfl, rfl⟩⟩
  | cons x r' => exact ⟨x.1, some ⟨x.2, 0, none⟩, true, rfl, .inl ⟨rfl, x.2, r', rfl, rfl⟩⟩
/-- ahead of a round: what is still to come, how much -/
def RlS {γ : Type} (Mo : γ → List Nat) (J : StS → γ → World → Prop) (eb : Nat) (v : Value) (wr : World) (N : Nat) : Prop :=
  ∃ (k : (List UInt8)) (r : List EnS) (c : γ) (kk : (List UInt8)) (pp : Option Addr) (b : Bool), N = r.length ∧ v = .bool b ∧ J (k, r) c wr ∧ wr.heap[eb]? = some (.cells #[.string ⟨List.toArray kk⟩, .pointer pp] TES (0, 0)) ∧ ((b = true ∧ ∃ vb r', r = (kk, vb) :: r' ∧ pp = some ⟨vb, 0, none⟩) ∨ (b = false ∧ r = [])) ∧ eb ∉ Mo c ∧ ∀ m ∈ Mo c, m < wr.heap.size
set_option maxHeartbeats 8000000 in
theorem aboveS_stops {γ : Type} (Mo : γ → List Nat) (B1 B2 sb off : Nat) (k0 : (List UInt8)) (r0 : List EnS) (w : World) (hk : w.cell? ⟨B2, 0, none⟩ = some (.string ⟨List.toArray k0⟩)) :
    SeqG Fence.wide 8 Tryz.prog 78 #[.pointer (some ⟨B1, 0, none⟩), .pointer (some ⟨B2, 0, none⟩)] enS Mo nxS (fun s (_ : γ) W => PreS B1 sb off s W) (k0, r0) w := by
  intro L J Jx W c0 hW hJ hJx hlt hPre hY h0
  have hk' : W.cell? ⟨B2, 0, none⟩ = some (.string ⟨List.toArray k0⟩) := (hW.cell (p := ⟨B2, 0, none⟩) (World.block_lt_of_cell? w _ hk)).trans hk
  obtain ⟨p1, v, es, O, p2, p3, p4, p5, p6⟩ := hPre _ _ _ h0
  have HN := Lib.hid (nextS_hi sb off v es O p4 p5 k0 W p2 p3)
  rw [p6] at HN
  have HJ := Lib.hid hJ
  have HJx := Lib.hid hJx
  have HP := Lib.hid hPre
  have HY := Lib.hid hY
  have H0 := Lib.hid h0
  have HL := Lib.hid hlt
  clear hJ hJx hPre hY h0 hlt p2 p3 p4 p5 p6 hW hk
  refine callsIn_of_wp Tryz.func78 rfl trivial ?_ rfl
  simp only [Tryz.ntmps78, List.size_toArray, List.length_cons, List.length_nil, Nat.reduceAdd, Nat.reduceSub, Array.replicate_succ, Array.replicate_zero, List.push_toArray, List.append_toArray, List.nil_append, List.cons_append]
  gi_wp2_with fail
  refine ⟨trivial, (callsIn_wide.2 HN.out).mono ?_⟩
  rintro e w1 ⟨rfl, hb1⟩
  obtain ⟨kk, pp, b, e1, hcs⟩ := nx_casesS r0
  rw [e1]
  have hw1 : W.heap.size ≤ w1.heap.size := hb1.size
  have HJ0 := Lib.hid (HJ.out _ _ _ _ H0.out ((Same.below hb1).trans (Same.alloc _ _ w1 (.cells #[.string ⟨List.toArray kk⟩, .pointer pp] TES))))
  have HB0 := Lib.hid (heap_alloc_new w1 (.cells #[.string ⟨List.toArray kk⟩, .pointer pp] TES))
  have HM0 := Lib.hid (show w1.heap.size ∉ Mo c0 ∧ ∀ m ∈ Mo c0, m < (w1.alloc (.cells #[.string ⟨List.toArray kk⟩, .pointer pp] TES)).heap.size from ⟨fun h => by have := HL.out _ h; omega, fun m h => by have := HL.out _ h; simp; omega⟩)
  have HCS := Lib.hid hcs
  have HW1 := Lib.hid hw1
  clear hb1 hcs e1 H0 HN HL hw1 hk' p1
  generalize hBz : W.heap.size = Bz at *
  generalize heb : w1.heap.size = eb at *
  gi_wp2_with fail
  obtain ⟨ms, hms⟩ := least14 (RlS Mo J eb)
  have HMS := Lib.hid hms
  have HR0 : Hid (∃ N, RlS Mo J eb (.bool b) (w1.alloc (.cells #[.string ⟨List.toArray kk⟩, .pointer pp] TES)) N) := ⟨_, k0, r0, c0, kk, pp, b, rfl, rfl, HJ0.out, HB0.out, HCS.out, HM0.out.1, HM0.out.2⟩
  clear hms HJ0 HB0 HCS HM0 hBz heb
  gi_loopw [5] (fun v wr => ∃ N, RlS Mo J eb v wr N) (fun v wr => ms v wr)
  case atStart => exact HR0.out
  case round =>
    clear HR0
    obtain ⟨hrl, hmin⟩ := HMS.out _ _ hrel
    clear hrel
    obtain ⟨k, r, c, kk, pp, b, hN, rfl, hJr, hbr, hcs, hm1, hm2⟩ := hrl
    rcases hcs with ⟨rfl, vb, r', rfl, rfl⟩ | ⟨rfl, rfl⟩
    · obtain ⟨fn, tmps, assign, body, hy, hR⟩ := HY.out (k, (kk, vb) :: r') (kk, vb) (kk, r') c wr hJr rfl
      have A1 := (At.of_block hbr).f2
      have HbR := Lib.hid hbr
      have HM1 := Lib.hid hm1
      have HM2 := Lib.hid hm2
      have HNN := Lib.hid hN
      unfold enS at hy
      dsimp only at hy
      clear hbr hm1 hm2 hN hmin hJr
      gi_wp2
      refine hR.mono ?_
      clear hR hy A1
      rintro e W3 (⟨rfl, c', hJ3, hst⟩ | ⟨rfl, c', hJ3, hst⟩)
      · have hb3 := hst.same eb _ HW1.out HM1.out HbR.out
        have A3 := (At.of_block hb3).f2
        have hm3 : eb ∉ Mo c' := fun h => by
          rcases hst.new _ h with q | q
          · exact HM1.out q
          · have := (Array.getElem?_eq_some_iff.1 HbR.out).1; omega
        obtain ⟨p1, v, es, O, p2, p3, p4, p5, p6⟩ := HP.out _ _ _ hJ3
        have HN := Lib.hid (nextS_hi sb off v es O p4 p5 kk W3 p2 p3)
        rw [p6] at HN
        obtain ⟨kn, pn, bn, e1, hcn⟩ := nx_casesS r'
        have HJ3 := Lib.hid hJ3
        have HB3 := Lib.hid hb3
        have HM3 := Lib.hid hm3
        have HL3 := Lib.hid hst.lt
        have HCN := Lib.hid hcn
        have HE1 := Lib.hid e1
        clear hJ3 hb3 hm3 hst hcn e1 p2 p3 p4 p5 p6
        gi_wp2_with fail
        refine ⟨trivial, (callsIn_wide.2 HN.out).mono ?_⟩
        rintro e W4 ⟨rfl, hb4⟩
        rw [HE1.out]
        have hb5 : W4.heap[eb]? = some (.cells #[.string ⟨List.toArray kk⟩, .pointer (some ⟨vb, 0, none⟩)] TES (0, 0)) := (hb4.block eb (Array.getElem?_eq_some_iff.1 HB3.out).1).trans HB3.out
        have A4 := (At.of_block hb5).f2
        have HJ4 := Lib.hid (HJ.out _ _ _ _ HJ3.out (((Same.below hb4).trans (Same.set (b := eb) (j := 0) (.string ⟨List.toArray kn⟩) HW1.out HM3.out)).trans (Same.set (b := eb) (j := 1) (.pointer pn) HW1.out HM3.out)))
        have HB5 := Lib.hid (blk_set14 (blk_set14 hb5 0 (.string ⟨List.toArray kn⟩)) 1 (.pointer pn))
        have HL4 := Lib.hid (show ∀ m ∈ Mo c', m < ((W4.setCell ⟨eb, 0, none⟩ (.string ⟨List.toArray kn⟩)).setCell ⟨eb, 1, none⟩ (.pointer pn)).heap.size from fun m hm => by
          have := HL3.out m hm
          have := hb4.size
          simp [World.setCell]; omega)
        clear hb4 hb5 HN HJ3 HB3 HL3 A3 p1
        gi_wp2
        have HRN : Hid (RlS Mo J eb (.bool bn) ((W4.setCell ⟨eb, 0, none⟩ (.string ⟨List.toArray kn⟩)).setCell ⟨eb, 1, none⟩ (.pointer pn)) r'.length) := ⟨kk, r', c', kn, pn, bn, rfl, rfl, HJ4.out, by simpa using HB5.out, HCN.out, HM3.out, HL4.out⟩
        go_roundw
        case rel => exact ⟨_, HRN.out⟩
        case measure =>
          have h1 := (HMS.out _ _ ⟨_, HRN.out⟩).2 _ HRN.out
          have h2 := HNN.out
          simp only [List.length_cons] at h2
          omega
      · have HJ3 := Lib.hid hJ3
        clear hJ3 hst
        gi_wp2
        go_end0
        exact ⟨⟨_, rfl⟩, .inr ⟨c', HJ3.out⟩⟩
    · have HJ3 := Lib.hid hJr
      clear hJr hbr hm1 hm2 hN hmin
      gi_wp2_with fail
      refine ⟨(fun f h => nomatch h), ?_⟩
      gi_wp2
      go_end0
      exact ⟨⟨_, rfl⟩, .inl ⟨(k, []), c, rfl, HJ3.out⟩⟩
end Go.Proofs.YtedcdhngiofpjaaGreatDoor
