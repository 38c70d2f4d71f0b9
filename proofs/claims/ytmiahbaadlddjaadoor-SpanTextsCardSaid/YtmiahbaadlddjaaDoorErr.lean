/- The library's variable for numbers out of range: what take asks of it; Parse at every text. -/
import Derived.Test.YtmiahbaadlddjaaDoorRound
import Derived.Shelf.Pu.ErrVarParseUint
import Derived.Lib.LaidU8
namespace Go.Proofs.YtmiahbaadlddjaaDoor
open Go Go.Proofs Go.RowKit Go.Shelf
set_option maxRecDepth 100000
theorem trod_iface {H : Type} {enc : TypeId × Value → H} {P : Program} {w : World} {base : Nat} {spare : Nat → Bool} {fuel : Nat} {t : TypeId} {cs : List Value} {nm : String} {x : DataW H} {p : List MemPlace}
    (h : DataW.trod enc P w base spare false fuel t cs = some (.iface nm x, p)) : ∃ u v, cs = [.iface u v] := by
  cases fuel with
  | zero => simp [DataW.trod] at h
  | succ fuel =>
    unfold DataW.trod at h
    split at h
    all_goals first
      | exact ⟨_, _, rfl⟩
      | (exfalso; simp at h; done)
      | (exfalso; split at h <;> simp at h <;> done)
      | (exfalso; simp [Option.map_eq_some_iff, Option.bind_eq_some_iff] at h; done)
      | (exfalso; split at h <;> simp [Option.map_eq_some_iff, Option.bind_eq_some_iff] at h <;> done)
/-- the library's error for numbers out of range is laid -/
def ErrOk (w : World) : Prop := ∃ tp p, w.var? Tryd.prog "strconv.ErrRange" = some #[.iface tp p]
theorem err_of_reads {W : World} {d : DataW Unit} {nm : String} {x : DataW Unit} (h : Lib.VarReads Tryd.prog W "strconv.ErrRange" d) (hd : d = .iface nm x) : ErrOk W := by
  obtain ⟨g, t, cs, fuel, p, hg, ht, hvar, hr⟩ := h
  rw [hd] at hr
  obtain ⟨u, v, e⟩ := trod_iface hr
  refine ⟨u, v, ?_⟩
  rw [hvar]
  congr 1
  apply Array.toList_inj.1
  rw [e]
theorem ErrOk.below {w w' : World} (h : ErrOk w) (hb : Below w.heap.size w w') : ErrOk w' := by
  obtain ⟨tp, p, h⟩ := h
  refine ⟨tp, p, ?_⟩
  unfold World.var? at *
  cases hg : Tryd.prog.globalNamed "strconv.ErrRange" with
  | none => simp [hg] at h
  | some g =>
    simp only [hg, Option.bind_some] at h ⊢
    have hlt : g < w.heap.size := by
      rcases Nat.lt_or_ge g w.heap.size with h' | h'
      · exact h'
      · rw [Array.getElem?_eq_none h'] at h; simp at h
    rw [hb.block g hlt]
    exact h
theorem pu_all (w : World) (l : List UInt8) (hl : l.length ≤ 1000) (he : ErrOk w) : PuOk w l := fun h0 W hb => by
  by_cases h : dval (l.takeWhile dB) ≤ 18446744073709551615
  · exact pu_ok w l hl h h0 W hb
  · obtain ⟨tp, p, hv⟩ := he.below hb
    unfold dsat
    rw [if_neg h]
    refine (Tryd.strconv_ParseUint_10_at64_range_var ⟨(l.takeWhile dB).toArray⟩ (by have := tw_le dB l; show (l.takeWhile dB).length ≤ _; omega) ?_ tp p W hv).mono ?_
    · show Lib.parseUintB 64 (l.takeWhile dB) = _
      rw [uintB _ (tw_all dB l) h0, if_neg h]
    · rintro e w' ⟨N, rfl, _, _, h3⟩
      exact ⟨⟨_, rfl⟩, h3⟩
theorem parse_ascii (l : List UInt8) (hl : l.length ≤ 1000) (ha : l.all (fun b => decide (b.toNat < 128)) = true) (w : World) (he : ErrOk w) :
    Calls Tryd.prog 19 #[.string ⟨l.toArray⟩] w fun e w' => e = .returned (Two (parseR l)) ∧ Below w.heap.size w w' :=
  parse_any l hl w (fun k => ix_ascii _ (by rw [List.length_drop]; omega) (by
    rw [List.all_eq_true] at ha ⊢
    exact fun x hx => ha x (List.mem_of_mem_drop hx))) (fun k W hb => pu_all W _ (by rw [List.length_drop]; omega) (he.below hb))
theorem dec_ascii (n : Nat) : (Lib.decDigits n).all (fun b => decide (b.toNat < 128)) = true := by
  obtain ⟨c, t, e, a, _⟩ := dec_form n
  rw [e]
  rw [List.all_eq_true] at a ⊢
  intro x hx
  have := (dB_iff x).1 (a x hx)
  exact decide_eq_true (by omega)
theorem word_ascii (u : Fin 5) : (unitWord u).all (fun b => decide (b.toNat < 128)) = true := by
  match u with
  | 0 => decide
  | 1 => decide
  | 2 => decide
  | 3 => decide
  | 4 => decide
theorem tx_ascii (us : List (Fin 5)) : ∀ d, (tx us d).all (fun b => decide (b.toNat < 128)) = true := by
  induction us with
  | nil => intro d; rfl
  | cons u t ih =>
    intro d
    rw [tx_cons, List.all_append, ih, Bool.and_true]
    split
    · rw [List.all_append, dec_ascii, word_ascii]; rfl
    · rfl
theorem textR_ascii (d : Nat) : (textR d).all (fun b => decide (b.toNat < 128)) = true := by
  rw [textR_tx]
  split
  · decide
  · exact tx_ascii _ _
theorem textR_len (d : Nat) (h : d ≤ 4398046511104) : (textR d).length ≤ 1000 := by
  unfold textR
  split
  · simp
  · have := tRun_len d (by omega) [0, 1, 2, 3, 4]
    simp at this
    omega
/-- Parse of any time in words -/
theorem parse_back (d : Nat) (h : d ≤ 4398046511104) (w : World) (he : ErrOk w) :
    Calls Tryd.prog 19 #[.string ⟨(textR d).toArray⟩] w fun e w' => e = .returned (.tuple #[.int .i64 (d : Int), .int .i64 0]) ∧ Below w.heap.size w w' := by
  have := parse_ascii (textR d) (textR_len d h) (textR_ascii d) w he
  rw [parse_text d h] at this
  exact this
end Go.Proofs.YtmiahbaadlddjaaDoor
