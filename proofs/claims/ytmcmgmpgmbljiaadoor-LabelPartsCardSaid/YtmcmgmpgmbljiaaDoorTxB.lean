/- braces.Text of a set's items; label.Text. -/
import Derived.Test.YtmcmgmpgmbljiaaDoorTxI
import Derived.Test.YtmcmgmpgmbljiaaDoorBrX
namespace Go.Proofs.YtmcmgmpgmbljiaaDoor
open Go Go.Proofs Go.RowKit Go.Shelf
set_option maxRecDepth 100000
theorem seqJ_map {α β : Type} (f : α → β) {T : TypeId} {F : Fence} {n : Nat} {P : Program} {g : Nat} {lb : Array Value} {encs : β → Array Value} {n₀ : Nat} {zs : List α} {w : World} (h : SeqStopsJ T F n P g lb (fun x => encs (f x)) n₀ (fun ys => ys = zs) (fun pre => pre <+: zs) zs.length w) :
    SeqStopsJ T F n P g lb encs n₀ (fun ys => ys = zs.map f) (fun pre => pre <+: zs.map f) (zs.map f).length w := by
  intro l J Jx W hW hJ hJx hY h0
  refine (h l (fun p => J (p.map f)) (fun p => Jx (p.map f)) W hW (fun s => hJ (s.map f)) (fun s => hJx (s.map f)) (fun pre x W1 hj hl => ?_) h0).mono ?_
  · have := hY (pre.map f) (f x) W1 hj (by simpa using hl)
    simpa only [List.map_append, List.map_cons, List.map_nil] using this
  · rintro e W' ⟨he, hq⟩
    refine ⟨he, ?_⟩
    rcases hq with ⟨xs, hx, hj⟩ | ⟨pre, hp, hj⟩
    · exact .inl ⟨_, congrArg (List.map f) hx, hj⟩
    · exact .inr ⟨_, hp.map f, hj⟩
theorem runI_toI (zs : List SLab) : runI (zs.map toI) = runS zs := by
  unfold runI runS
  rw [List.foldl_map]
  congr 1
  funext s x
  unfold iStep lStep itT labT toI labI quoR
  simp
theorem litems_any (a : Option Addr) (len cap : Nat) (w : World) :
    Calls Tryd.prog 39 #[.slice a len cap] w fun e w' => e = .returned (.func (.func 56) #[] #[.pointer (some ⟨w.heap.size, 0, none⟩)]) ∧ w' = w.alloc (.cells #[.slice a len cap] 23) := by
  go_enter Tryd.func39, Tryd.ntmps39
  go_wp2
  go_ret
  exact ⟨rfl, rfl⟩
set_option maxHeartbeats 1000000 in
theorem ltext_any (a : Option Addr) (len cap : Nat) (zs : List SLab) (hreach : zs.length ≤ 100) (w : World) (hI : Labs w.heap.size w (.slice a len cap) zs) :
    Calls Tryd.prog 13 #[.slice a len cap] w fun e w' => e = .returned (.string ⟨((runS zs).1 ++ [125]).toArray⟩) ∧ Below w.heap.size w w' := by
  have hb := below_cells (w := w) (.cells #[.slice a len cap] 23)
  have D := At.new w #[.slice a len cap] 23
  have HI : Labs (w.alloc (.cells #[.slice a len cap] 23)).heap.size (w.alloc (.cells #[.slice a len cap] 23)) (.slice a len cap) zs := by
    have h := hI.below hb
    rcases h with e | ⟨b, off, c, e, h1, h2⟩
    · exact .inl e
    · exact .inr ⟨b, off, c, e, Nat.lt_of_lt_of_le h1 hb.size, h2⟩
  have hT := btext_any 56 #[.pointer (some ⟨w.heap.size, 0, none⟩)] (zs.map toI) (by simpa using hreach) (w.alloc (.cells #[.slice a len cap] 23)) (enters_of Tryd.func56 (by kernel_rfl) rfl) (seqJ_map (encs := fun x : SItm => #[itmV x.1]) toI (items_stops w.heap.size (w.alloc (.cells #[.slice a len cap] 23)).heap.size (.slice a len cap) zs (by omega) (w.alloc (.cells #[.slice a len cap] 23)) (Nat.le_refl _) (by simp) (D.cell 0 _ rfl) HI))
  rw [runI_toI] at hT
  have HC := Lib.hid hT
  have HB := Lib.hid hb
  clear hI hb D HI hT
  go_enter Tryd.func13, Tryd.ntmps13
  go_wp2_with fail
  refine (litems_any a len cap w).mono ?_
  rintro e w1 ⟨rfl, rfl⟩
  go_wp2_with fail
  refine HC.out.mono ?_
  rintro e w2 ⟨rfl, hb⟩
  go_wp2
  go_ret
  exact ⟨rfl, below_then HB.out hb⟩
end Go.Proofs.YtmcmgmpgmbljiaaDoor
