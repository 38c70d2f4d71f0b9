/- regex: net.chain, net.again, perhaps, either. -/
import Derived.Test.YtcfdpbbpdnpnnaaDoorFrm
namespace Go.Proofs.YtcfdpbbpdnpnnaaDoor
open Go Go.Proofs Go.RowKit Go.Shelf
set_option maxRecDepth 100000
attribute [local go_sem] cell_set
/-- the piece of one behind the other -/
def seqP (x y : Rx.Pce) : Rx.Pce := ⟨if x.none then x.first ||| y.first else x.first, if y.none then y.last ||| x.last else y.last, x.none && y.none⟩
set_option maxHeartbeats 4000000 in
theorem chain_ff (base g cap : Nat) (n : Rx.Nt) (x1 x2 y1 y2 : Nat) (hl : ∀ i, i < 256 → x2.testBit i = true → i < n.length) (hn : 0 < n.length) (w : World) (N : NetR base w (rowV g n.length cap) n) :
    Calls Tryd.prog 31 #[rowV g n.length cap, pceV ⟨x1, x2, false⟩, pceV ⟨y1, y2, false⟩] w fun e w' => e = .returned (pceV (seqP ⟨x1, x2, false⟩ ⟨y1, y2, false⟩)) ∧ NetR base w' (rowV g n.length cap) (Rx.joinN x2 y1 n) ∧ w.grownBy w' (some g) := by
  have nG := (N.lt _ rfl).2
  have nT := N.tab.lt
  have hJ := fun W (h : NetR base W (rowV g n.length cap) n) => join_any base _ n x2 y1 hl hn W h
  have HJ := Lib.hid hJ
  have B : w.grownBy w (some g) := below_grown (Below.refl _ _)
  clear hl hJ
  unfold pceV
  dsimp only
  go_enter Tryd.func31, Tryd.ntmps31
  go_wp2_with fail
  have Dx : At ((((w).alloc (.cells #[.int .u64 (word (x1) 0), .int .u64 (word (x1) 1), .int .u64 (word (x1) 2), .int .u64 (word (x1) 3), .int .u64 (word (x2) 0), .int .u64 (word (x2) 1), .int .u64 (word (x2) 2), .int .u64 (word (x2) 3), .bool false] 53)).alloc (.cells #[.int .u64 (word (y1) 0), .int .u64 (word (y1) 1), .int .u64 (word (y1) 2), .int .u64 (word (y1) 3), .int .u64 (word (y2) 0), .int .u64 (word (y2) 1), .int .u64 (word (y2) 2), .int .u64 (word (y2) 3), .bool false] 53)).alloc (.cells #[.int .u64 0, .int .u64 0, .int .u64 0, .int .u64 0, .int .u64 0, .int .u64 0, .int .u64 0, .int .u64 0, .bool false] 53)) (w.heap.size) [.int .u64 (word (x1) 0), .int .u64 (word (x1) 1), .int .u64 (word (x1) 2), .int .u64 (word (x1) 3), .int .u64 (word (x2) 0), .int .u64 (word (x2) 1), .int .u64 (word (x2) 2), .int .u64 (word (x2) 3), .bool false] := by have h := (((At.new (w) #[.int .u64 (word (x1) 0), .int .u64 (word (x1) 1), .int .u64 (word (x1) 2), .int .u64 (word (x1) 3), .int .u64 (word (x2) 0), .int .u64 (word (x2) 1), .int .u64 (word (x2) 2), .int .u64 (word (x2) 3), .bool false] 53).alloc (.cells #[.int .u64 (word (y1) 0), .int .u64 (word (y1) 1), .int .u64 (word (y1) 2), .int .u64 (word (y1) 3), .int .u64 (word (y2) 0), .int .u64 (word (y2) 1), .int .u64 (word (y2) 2), .int .u64 (word (y2) 3), .bool false] 53)).alloc (.cells #[.int .u64 0, .int .u64 0, .int .u64 0, .int .u64 0, .int .u64 0, .int .u64 0, .int .u64 0, .int .u64 0, .bool false] 53)); simpa using h
  have Dy : At ((((w).alloc (.cells #[.int .u64 (word (x1) 0), .int .u64 (word (x1) 1), .int .u64 (word (x1) 2), .int .u64 (word (x1) 3), .int .u64 (word (x2) 0), .int .u64 (word (x2) 1), .int .u64 (word (x2) 2), .int .u64 (word (x2) 3), .bool false] 53)).alloc (.cells #[.int .u64 (word (y1) 0), .int .u64 (word (y1) 1), .int .u64 (word (y1) 2), .int .u64 (word (y1) 3), .int .u64 (word (y2) 0), .int .u64 (word (y2) 1), .int .u64 (word (y2) 2), .int .u64 (word (y2) 3), .bool false] 53)).alloc (.cells #[.int .u64 0, .int .u64 0, .int .u64 0, .int .u64 0, .int .u64 0, .int .u64 0, .int .u64 0, .int .u64 0, .bool false] 53)) (w.heap.size + 1) [.int .u64 (word (y1) 0), .int .u64 (word (y1) 1), .int .u64 (word (y1) 2), .int .u64 (word (y1) 3), .int .u64 (word (y2) 0), .int .u64 (word (y2) 1), .int .u64 (word (y2) 2), .int .u64 (word (y2) 3), .bool false] := by have h := ((At.new ((w).alloc (.cells #[.int .u64 (word (x1) 0), .int .u64 (word (x1) 1), .int .u64 (word (x1) 2), .int .u64 (word (x1) 3), .int .u64 (word (x2) 0), .int .u64 (word (x2) 1), .int .u64 (word (x2) 2), .int .u64 (word (x2) 3), .bool false] 53)) #[.int .u64 (word (y1) 0), .int .u64 (word (y1) 1), .int .u64 (word (y1) 2), .int .u64 (word (y1) 3), .int .u64 (word (y2) 0), .int .u64 (word (y2) 1), .int .u64 (word (y2) 2), .int .u64 (word (y2) 3), .bool false] 53).alloc (.cells #[.int .u64 0, .int .u64 0, .int .u64 0, .int .u64 0, .int .u64 0, .int .u64 0, .int .u64 0, .int .u64 0, .bool false] 53)); simpa using h
  have Dr : At ((((w).alloc (.cells #[.int .u64 (word (x1) 0), .int .u64 (word (x1) 1), .int .u64 (word (x1) 2), .int .u64 (word (x1) 3), .int .u64 (word (x2) 0), .int .u64 (word (x2) 1), .int .u64 (word (x2) 2), .int .u64 (word (x2) 3), .bool false] 53)).alloc (.cells #[.int .u64 (word (y1) 0), .int .u64 (word (y1) 1), .int .u64 (word (y1) 2), .int .u64 (word (y1) 3), .int .u64 (word (y2) 0), .int .u64 (word (y2) 1), .int .u64 (word (y2) 2), .int .u64 (word (y2) 3), .bool false] 53)).alloc (.cells #[.int .u64 0, .int .u64 0, .int .u64 0, .int .u64 0, .int .u64 0, .int .u64 0, .int .u64 0, .int .u64 0, .bool false] 53)) (w.heap.size + 1 + 1) [.int .u64 0, .int .u64 0, .int .u64 0, .int .u64 0, .int .u64 0, .int .u64 0, .int .u64 0, .int .u64 0, .bool false] := by have h := (At.new (((w).alloc (.cells #[.int .u64 (word (x1) 0), .int .u64 (word (x1) 1), .int .u64 (word (x1) 2), .int .u64 (word (x1) 3), .int .u64 (word (x2) 0), .int .u64 (word (x2) 1), .int .u64 (word (x2) 2), .int .u64 (word (x2) 3), .bool false] 53)).alloc (.cells #[.int .u64 (word (y1) 0), .int .u64 (word (y1) 1), .int .u64 (word (y1) 2), .int .u64 (word (y1) 3), .int .u64 (word (y2) 0), .int .u64 (word (y2) 1), .int .u64 (word (y2) 2), .int .u64 (word (y2) 3), .bool false] 53)) #[.int .u64 0, .int .u64 0, .int .u64 0, .int .u64 0, .int .u64 0, .int .u64 0, .int .u64 0, .int .u64 0, .bool false] 53); simpa using h
  have N := (((N.alloc (.cells #[.int .u64 (word (x1) 0), .int .u64 (word (x1) 1), .int .u64 (word (x1) 2), .int .u64 (word (x1) 3), .int .u64 (word (x2) 0), .int .u64 (word (x2) 1), .int .u64 (word (x2) 2), .int .u64 (word (x2) 3), .bool false] 53)).alloc (.cells #[.int .u64 (word (y1) 0), .int .u64 (word (y1) 1), .int .u64 (word (y1) 2), .int .u64 (word (y1) 3), .int .u64 (word (y2) 0), .int .u64 (word (y2) 1), .int .u64 (word (y2) 2), .int .u64 (word (y2) 3), .bool false] 53)).alloc (.cells #[.int .u64 0, .int .u64 0, .int .u64 0, .int .u64 0, .int .u64 0, .int .u64 0, .int .u64 0, .int .u64 0, .bool false] 53))
  have B := (grown_alloc (grown_alloc (grown_alloc B (.cells #[.int .u64 (word (x1) 0), .int .u64 (word (x1) 1), .int .u64 (word (x1) 2), .int .u64 (word (x1) 3), .int .u64 (word (x2) 0), .int .u64 (word (x2) 1), .int .u64 (word (x2) 2), .int .u64 (word (x2) 3), .bool false] 53)) (.cells #[.int .u64 (word (y1) 0), .int .u64 (word (y1) 1), .int .u64 (word (y1) 2), .int .u64 (word (y1) 3), .int .u64 (word (y2) 0), .int .u64 (word (y2) 1), .int .u64 (word (y2) 2), .int .u64 (word (y2) 3), .bool false] 53)) (.cells #[.int .u64 0, .int .u64 0, .int .u64 0, .int .u64 0, .int .u64 0, .int .u64 0, .int .u64 0, .int .u64 0, .bool false] 53))
  refine (HJ.out _ (by assumption)).mono ?_
  rintro e w1 ⟨⟨r, rfl⟩, hN, hg⟩
  replace hg : World.grownBy _ _ (some g) := hg
  have Dx := grown_at hg Dx (fun e2 => by have e3 := Option.some.inj e2; omega)
  have Dy := grown_at hg Dy (fun e2 => by have e3 := Option.some.inj e2; omega)
  have Dr := grown_at hg Dr (fun e2 => by have e3 := Option.some.inj e2; omega)
  have N := hN
  have B := grown_trans B hg
  clear hN hg
  have ax0 := Dx.cell 0 _ rfl
  have zx0 := Dx.free 0 _ rfl
  have ax1 := Dx.cell 1 _ rfl
  have zx1 := Dx.free 1 _ rfl
  have ax2 := Dx.cell 2 _ rfl
  have zx2 := Dx.free 2 _ rfl
  have ax3 := Dx.cell 3 _ rfl
  have zx3 := Dx.free 3 _ rfl
  have ax4 := Dx.cell 4 _ rfl
  have zx4 := Dx.free 4 _ rfl
  have ax5 := Dx.cell 5 _ rfl
  have zx5 := Dx.free 5 _ rfl
  have ax6 := Dx.cell 6 _ rfl
  have zx6 := Dx.free 6 _ rfl
  have ax7 := Dx.cell 7 _ rfl
  have zx7 := Dx.free 7 _ rfl
  have ax8 := Dx.cell 8 _ rfl
  have zx8 := Dx.free 8 _ rfl
  have nx := Dx.lt
  have ay0 := Dy.cell 0 _ rfl
  have zy0 := Dy.free 0 _ rfl
  have ay1 := Dy.cell 1 _ rfl
  have zy1 := Dy.free 1 _ rfl
  have ay2 := Dy.cell 2 _ rfl
  have zy2 := Dy.free 2 _ rfl
  have ay3 := Dy.cell 3 _ rfl
  have zy3 := Dy.free 3 _ rfl
  have ay4 := Dy.cell 4 _ rfl
  have zy4 := Dy.free 4 _ rfl
  have ay5 := Dy.cell 5 _ rfl
  have zy5 := Dy.free 5 _ rfl
  have ay6 := Dy.cell 6 _ rfl
  have zy6 := Dy.free 6 _ rfl
  have ay7 := Dy.cell 7 _ rfl
  have zy7 := Dy.free 7 _ rfl
  have ay8 := Dy.cell 8 _ rfl
  have zy8 := Dy.free 8 _ rfl
  have ny := Dy.lt
  have ar0 := Dr.cell 0 _ rfl
  have zr0 := Dr.free 0 _ rfl
  have ar1 := Dr.cell 1 _ rfl
  have zr1 := Dr.free 1 _ rfl
  have ar2 := Dr.cell 2 _ rfl
  have zr2 := Dr.free 2 _ rfl
  have ar3 := Dr.cell 3 _ rfl
  have zr3 := Dr.free 3 _ rfl
  have ar4 := Dr.cell 4 _ rfl
  have zr4 := Dr.free 4 _ rfl
  have ar5 := Dr.cell 5 _ rfl
  have zr5 := Dr.free 5 _ rfl
  have ar6 := Dr.cell 6 _ rfl
  have zr6 := Dr.free 6 _ rfl
  have ar7 := Dr.cell 7 _ rfl
  have zr7 := Dr.free 7 _ rfl
  have ar8 := Dr.cell 8 _ rfl
  have zr8 := Dr.free 8 _ rfl
  have nr := Dr.lt
  have nG := (N.lt _ rfl).2
  go_wp2_with fail
  clear ax0 zx0 ax1 zx1 ax2 zx2 ax3 zx3 ax4 zx4 ax5 zx5 ax6 zx6 ax7 zx7 ax8 zx8 nx ay0 zy0 ay1 zy1 ay2 zy2 ay3 zy3 ay4 zy4 ay5 zy5 ay6 zy6 ay7 zy7 ay8 zy8 ny ar0 zr0 ar1 zr1 ar2 zr2 ar3 zr3 ar4 zr4 ar5 zr5 ar6 zr6 ar7 zr7 ar8 zr8 nr nG
  have Dx : At ((((((((((w1).setCell ⟨w.heap.size + 1 + 1, 0, none⟩ (.int .u64 (word (x1) 0))).setCell ⟨w.heap.size + 1 + 1, 1, none⟩ (.int .u64 (word (x1) 1))).setCell ⟨w.heap.size + 1 + 1, 2, none⟩ (.int .u64 (word (x1) 2))).setCell ⟨w.heap.size + 1 + 1, 3, none⟩ (.int .u64 (word (x1) 3))).setCell ⟨w.heap.size + 1 + 1, 4, none⟩ (.int .u64 (word (y2) 0))).setCell ⟨w.heap.size + 1 + 1, 5, none⟩ (.int .u64 (word (y2) 1))).setCell ⟨w.heap.size + 1 + 1, 6, none⟩ (.int .u64 (word (y2) 2))).setCell ⟨w.heap.size + 1 + 1, 7, none⟩ (.int .u64 (word (y2) 3))).setCell ⟨w.heap.size + 1 + 1, 8, none⟩ (.bool false)) (w.heap.size) [.int .u64 (word (x1) 0), .int .u64 (word (x1) 1), .int .u64 (word (x1) 2), .int .u64 (word (x1) 3), .int .u64 (word (x2) 0), .int .u64 (word (x2) 1), .int .u64 (word (x2) 2), .int .u64 (word (x2) 3), .bool false] := (((((((((Dx.far (b' := w.heap.size + 1 + 1) (j := 0) (by omega) (.int .u64 (word (x1) 0))).far (b' := w.heap.size + 1 + 1) (j := 1) (by omega) (.int .u64 (word (x1) 1))).far (b' := w.heap.size + 1 + 1) (j := 2) (by omega) (.int .u64 (word (x1) 2))).far (b' := w.heap.size + 1 + 1) (j := 3) (by omega) (.int .u64 (word (x1) 3))).far (b' := w.heap.size + 1 + 1) (j := 4) (by omega) (.int .u64 (word (y2) 0))).far (b' := w.heap.size + 1 + 1) (j := 5) (by omega) (.int .u64 (word (y2) 1))).far (b' := w.heap.size + 1 + 1) (j := 6) (by omega) (.int .u64 (word (y2) 2))).far (b' := w.heap.size + 1 + 1) (j := 7) (by omega) (.int .u64 (word (y2) 3))).far (b' := w.heap.size + 1 + 1) (j := 8) (by omega) (.bool false))
  have Dy : At ((((((((((w1).setCell ⟨w.heap.size + 1 + 1, 0, none⟩ (.int .u64 (word (x1) 0))).setCell ⟨w.heap.size + 1 + 1, 1, none⟩ (.int .u64 (word (x1) 1))).setCell ⟨w.heap.size + 1 + 1, 2, none⟩ (.int .u64 (word (x1) 2))).setCell ⟨w.heap.size + 1 + 1, 3, none⟩ (.int .u64 (word (x1) 3))).setCell ⟨w.heap.size + 1 + 1, 4, none⟩ (.int .u64 (word (y2) 0))).setCell ⟨w.heap.size + 1 + 1, 5, none⟩ (.int .u64 (word (y2) 1))).setCell ⟨w.heap.size + 1 + 1, 6, none⟩ (.int .u64 (word (y2) 2))).setCell ⟨w.heap.size + 1 + 1, 7, none⟩ (.int .u64 (word (y2) 3))).setCell ⟨w.heap.size + 1 + 1, 8, none⟩ (.bool false)) (w.heap.size + 1) [.int .u64 (word (y1) 0), .int .u64 (word (y1) 1), .int .u64 (word (y1) 2), .int .u64 (word (y1) 3), .int .u64 (word (y2) 0), .int .u64 (word (y2) 1), .int .u64 (word (y2) 2), .int .u64 (word (y2) 3), .bool false] := (((((((((Dy.far (b' := w.heap.size + 1 + 1) (j := 0) (by omega) (.int .u64 (word (x1) 0))).far (b' := w.heap.size + 1 + 1) (j := 1) (by omega) (.int .u64 (word (x1) 1))).far (b' := w.heap.size + 1 + 1) (j := 2) (by omega) (.int .u64 (word (x1) 2))).far (b' := w.heap.size + 1 + 1) (j := 3) (by omega) (.int .u64 (word (x1) 3))).far (b' := w.heap.size + 1 + 1) (j := 4) (by omega) (.int .u64 (word (y2) 0))).far (b' := w.heap.size + 1 + 1) (j := 5) (by omega) (.int .u64 (word (y2) 1))).far (b' := w.heap.size + 1 + 1) (j := 6) (by omega) (.int .u64 (word (y2) 2))).far (b' := w.heap.size + 1 + 1) (j := 7) (by omega) (.int .u64 (word (y2) 3))).far (b' := w.heap.size + 1 + 1) (j := 8) (by omega) (.bool false))
  have Dr : At ((((((((((w1).setCell ⟨w.heap.size + 1 + 1, 0, none⟩ (.int .u64 (word (x1) 0))).setCell ⟨w.heap.size + 1 + 1, 1, none⟩ (.int .u64 (word (x1) 1))).setCell ⟨w.heap.size + 1 + 1, 2, none⟩ (.int .u64 (word (x1) 2))).setCell ⟨w.heap.size + 1 + 1, 3, none⟩ (.int .u64 (word (x1) 3))).setCell ⟨w.heap.size + 1 + 1, 4, none⟩ (.int .u64 (word (y2) 0))).setCell ⟨w.heap.size + 1 + 1, 5, none⟩ (.int .u64 (word (y2) 1))).setCell ⟨w.heap.size + 1 + 1, 6, none⟩ (.int .u64 (word (y2) 2))).setCell ⟨w.heap.size + 1 + 1, 7, none⟩ (.int .u64 (word (y2) 3))).setCell ⟨w.heap.size + 1 + 1, 8, none⟩ (.bool false)) (w.heap.size + 1 + 1) [.int .u64 (word (x1) 0), .int .u64 (word (x1) 1), .int .u64 (word (x1) 2), .int .u64 (word (x1) 3), .int .u64 (word (y2) 0), .int .u64 (word (y2) 1), .int .u64 (word (y2) 2), .int .u64 (word (y2) 3), .bool false] := (((((((((Dr.set 0 (.int .u64 (word (x1) 0))).set 1 (.int .u64 (word (x1) 1))).set 2 (.int .u64 (word (x1) 2))).set 3 (.int .u64 (word (x1) 3))).set 4 (.int .u64 (word (y2) 0))).set 5 (.int .u64 (word (y2) 1))).set 6 (.int .u64 (word (y2) 2))).set 7 (.int .u64 (word (y2) 3))).set 8 (.bool false))
  have N := (((((((((N.setCell (b := w.heap.size + 1 + 1) (j := 0) (by omega) (by omega) (.int .u64 (word (x1) 0))).setCell (b := w.heap.size + 1 + 1) (j := 1) (by omega) (by omega) (.int .u64 (word (x1) 1))).setCell (b := w.heap.size + 1 + 1) (j := 2) (by omega) (by omega) (.int .u64 (word (x1) 2))).setCell (b := w.heap.size + 1 + 1) (j := 3) (by omega) (by omega) (.int .u64 (word (x1) 3))).setCell (b := w.heap.size + 1 + 1) (j := 4) (by omega) (by omega) (.int .u64 (word (y2) 0))).setCell (b := w.heap.size + 1 + 1) (j := 5) (by omega) (by omega) (.int .u64 (word (y2) 1))).setCell (b := w.heap.size + 1 + 1) (j := 6) (by omega) (by omega) (.int .u64 (word (y2) 2))).setCell (b := w.heap.size + 1 + 1) (j := 7) (by omega) (by omega) (.int .u64 (word (y2) 3))).setCell (b := w.heap.size + 1 + 1) (j := 8) (by omega) (by omega) (.bool false))
  have B := (grown_set (grown_set (grown_set (grown_set (grown_set (grown_set (grown_set (grown_set (grown_set B (p := ⟨w.heap.size + 1 + 1, 0, none⟩) (by dsimp only; omega) (.int .u64 (word (x1) 0))) (p := ⟨w.heap.size + 1 + 1, 1, none⟩) (by dsimp only; omega) (.int .u64 (word (x1) 1))) (p := ⟨w.heap.size + 1 + 1, 2, none⟩) (by dsimp only; omega) (.int .u64 (word (x1) 2))) (p := ⟨w.heap.size + 1 + 1, 3, none⟩) (by dsimp only; omega) (.int .u64 (word (x1) 3))) (p := ⟨w.heap.size + 1 + 1, 4, none⟩) (by dsimp only; omega) (.int .u64 (word (y2) 0))) (p := ⟨w.heap.size + 1 + 1, 5, none⟩) (by dsimp only; omega) (.int .u64 (word (y2) 1))) (p := ⟨w.heap.size + 1 + 1, 6, none⟩) (by dsimp only; omega) (.int .u64 (word (y2) 2))) (p := ⟨w.heap.size + 1 + 1, 7, none⟩) (by dsimp only; omega) (.int .u64 (word (y2) 3))) (p := ⟨w.heap.size + 1 + 1, 8, none⟩) (by dsimp only; omega) (.bool false))
  have ax0 := Dx.cell 0 _ rfl
  have zx0 := Dx.free 0 _ rfl
  have ax1 := Dx.cell 1 _ rfl
  have zx1 := Dx.free 1 _ rfl
  have ax2 := Dx.cell 2 _ rfl
  have zx2 := Dx.free 2 _ rfl
  have ax3 := Dx.cell 3 _ rfl
  have zx3 := Dx.free 3 _ rfl
  have ax4 := Dx.cell 4 _ rfl
  have zx4 := Dx.free 4 _ rfl
  have ax5 := Dx.cell 5 _ rfl
  have zx5 := Dx.free 5 _ rfl
  have ax6 := Dx.cell 6 _ rfl
  have zx6 := Dx.free 6 _ rfl
  have ax7 := Dx.cell 7 _ rfl
  have zx7 := Dx.free 7 _ rfl
  have ax8 := Dx.cell 8 _ rfl
  have zx8 := Dx.free 8 _ rfl
  have nx := Dx.lt
  have ay0 := Dy.cell 0 _ rfl
  have zy0 := Dy.free 0 _ rfl
  have ay1 := Dy.cell 1 _ rfl
  have zy1 := Dy.free 1 _ rfl
  have ay2 := Dy.cell 2 _ rfl
  have zy2 := Dy.free 2 _ rfl
  have ay3 := Dy.cell 3 _ rfl
  have zy3 := Dy.free 3 _ rfl
  have ay4 := Dy.cell 4 _ rfl
  have zy4 := Dy.free 4 _ rfl
  have ay5 := Dy.cell 5 _ rfl
  have zy5 := Dy.free 5 _ rfl
  have ay6 := Dy.cell 6 _ rfl
  have zy6 := Dy.free 6 _ rfl
  have ay7 := Dy.cell 7 _ rfl
  have zy7 := Dy.free 7 _ rfl
  have ay8 := Dy.cell 8 _ rfl
  have zy8 := Dy.free 8 _ rfl
  have ny := Dy.lt
  have ar0 := Dr.cell 0 _ rfl
  have zr0 := Dr.free 0 _ rfl
  have ar1 := Dr.cell 1 _ rfl
  have zr1 := Dr.free 1 _ rfl
  have ar2 := Dr.cell 2 _ rfl
  have zr2 := Dr.free 2 _ rfl
  have ar3 := Dr.cell 3 _ rfl
  have zr3 := Dr.free 3 _ rfl
  have ar4 := Dr.cell 4 _ rfl
  have zr4 := Dr.free 4 _ rfl
  have ar5 := Dr.cell 5 _ rfl
  have zr5 := Dr.free 5 _ rfl
  have ar6 := Dr.cell 6 _ rfl
  have zr6 := Dr.free 6 _ rfl
  have ar7 := Dr.cell 7 _ rfl
  have zr7 := Dr.free 7 _ rfl
  have ar8 := Dr.cell 8 _ rfl
  have zr8 := Dr.free 8 _ rfl
  have nr := Dr.lt
  have nG := (N.lt _ rfl).2
  refine bodyPost_ret (by simp [results, Tryd.results31, go_sem, ar0, zr0, ar1, zr1, ar2, zr2, ar3, zr3, ar4, zr4, ar5, zr5, ar6, zr6, ar7, zr7, ar8, zr8, nr]; try rfl) rfl ?_
  exact ⟨rfl, N, B⟩
set_option maxHeartbeats 4000000 in
theorem chain_ft (base g cap : Nat) (n : Rx.Nt) (x1 x2 y1 y2 : Nat) (hl : ∀ i, i < 256 → x2.testBit i = true → i < n.length) (hn : 0 < n.length) (w : World) (N : NetR base w (rowV g n.length cap) n) :
    Calls Tryd.prog 31 #[rowV g n.length cap, pceV ⟨x1, x2, false⟩, pceV ⟨y1, y2, true⟩] w fun e w' => e = .returned (pceV (seqP ⟨x1, x2, false⟩ ⟨y1, y2, true⟩)) ∧ NetR base w' (rowV g n.length cap) (Rx.joinN x2 y1 n) ∧ w.grownBy w' (some g) := by
  have nG := (N.lt _ rfl).2
  have nT := N.tab.lt
  have hJ := fun W (h : NetR base W (rowV g n.length cap) n) => join_any base _ n x2 y1 hl hn W h
  have HJ := Lib.hid hJ
  have B : w.grownBy w (some g) := below_grown (Below.refl _ _)
  clear hl hJ
  unfold pceV
  dsimp only
  go_enter Tryd.func31, Tryd.ntmps31
  go_wp2_with fail
  have Dx : At ((((w).alloc (.cells #[.int .u64 (word (x1) 0), .int .u64 (word (x1) 1), .int .u64 (word (x1) 2), .int .u64 (word (x1) 3), .int .u64 (word (x2) 0), .int .u64 (word (x2) 1), .int .u64 (word (x2) 2), .int .u64 (word (x2) 3), .bool false] 53)).alloc (.cells #[.int .u64 (word (y1) 0), .int .u64 (word (y1) 1), .int .u64 (word (y1) 2), .int .u64 (word (y1) 3), .int .u64 (word (y2) 0), .int .u64 (word (y2) 1), .int .u64 (word (y2) 2), .int .u64 (word (y2) 3), .bool true] 53)).alloc (.cells #[.int .u64 0, .int .u64 0, .int .u64 0, .int .u64 0, .int .u64 0, .int .u64 0, .int .u64 0, .int .u64 0, .bool false] 53)) (w.heap.size) [.int .u64 (word (x1) 0), .int .u64 (word (x1) 1), .int .u64 (word (x1) 2), .int .u64 (word (x1) 3), .int .u64 (word (x2) 0), .int .u64 (word (x2) 1), .int .u64 (word (x2) 2), .int .u64 (word (x2) 3), .bool false] := by have h := (((At.new (w) #[.int .u64 (word (x1) 0), .int .u64 (word (x1) 1), .int .u64 (word (x1) 2), .int .u64 (word (x1) 3), .int .u64 (word (x2) 0), .int .u64 (word (x2) 1), .int .u64 (word (x2) 2), .int .u64 (word (x2) 3), .bool false] 53).alloc (.cells #[.int .u64 (word (y1) 0), .int .u64 (word (y1) 1), .int .u64 (word (y1) 2), .int .u64 (word (y1) 3), .int .u64 (word (y2) 0), .int .u64 (word (y2) 1), .int .u64 (word (y2) 2), .int .u64 (word (y2) 3), .bool true] 53)).alloc (.cells #[.int .u64 0, .int .u64 0, .int .u64 0, .int .u64 0, .int .u64 0, .int .u64 0, .int .u64 0, .int .u64 0, .bool false] 53)); simpa using h
  have Dy : At ((((w).alloc (.cells #[.int .u64 (word (x1) 0), .int .u64 (word (x1) 1), .int .u64 (word (x1) 2), .int .u64 (word (x1) 3), .int .u64 (word (x2) 0), .int .u64 (word (x2) 1), .int .u64 (word (x2) 2), .int .u64 (word (x2) 3), .bool false] 53)).alloc (.cells #[.int .u64 (word (y1) 0), .int .u64 (word (y1) 1), .int .u64 (word (y1) 2), .int .u64 (word (y1) 3), .int .u64 (word (y2) 0), .int .u64 (word (y2) 1), .int .u64 (word (y2) 2), .int .u64 (word (y2) 3), .bool true] 53)).alloc (.cells #[.int .u64 0, .int .u64 0, .int .u64 0, .int .u64 0, .int .u64 0, .int .u64 0, .int .u64 0, .int .u64 0, .bool false] 53)) (w.heap.size + 1) [.int .u64 (word (y1) 0), .int .u64 (word (y1) 1), .int .u64 (word (y1) 2), .int .u64 (word (y1) 3), .int .u64 (word (y2) 0), .int .u64 (word (y2) 1), .int .u64 (word (y2) 2), .int .u64 (word (y2) 3), .bool true] := by have h := ((At.new ((w).alloc (.cells #[.int .u64 (word (x1) 0), .int .u64 (word (x1) 1), .int .u64 (word (x1) 2), .int .u64 (word (x1) 3), .int .u64 (word (x2) 0), .int .u64 (word (x2) 1), .int .u64 (word (x2) 2), .int .u64 (word (x2) 3), .bool false] 53)) #[.int .u64 (word (y1) 0), .int .u64 (word (y1) 1), .int .u64 (word (y1) 2), .int .u64 (word (y1) 3), .int .u64 (word (y2) 0), .int .u64 (word (y2) 1), .int .u64 (word (y2) 2), .int .u64 (word (y2) 3), .bool true] 53).alloc (.cells #[.int .u64 0, .int .u64 0, .int .u64 0, .int .u64 0, .int .u64 0, .int .u64 0, .int .u64 0, .int .u64 0, .bool false] 53)); simpa using h
  have Dr : At ((((w).alloc (.cells #[.int .u64 (word (x1) 0), .int .u64 (word (x1) 1), .int .u64 (word (x1) 2), .int .u64 (word (x1) 3), .int .u64 (word (x2) 0), .int .u64 (word (x2) 1), .int .u64 (word (x2) 2), .int .u64 (word (x2) 3), .bool false] 53)).alloc (.cells #[.int .u64 (word (y1) 0), .int .u64 (word (y1) 1), .int .u64 (word (y1) 2), .int .u64 (word (y1) 3), .int .u64 (word (y2) 0), .int .u64 (word (y2) 1), .int .u64 (word (y2) 2), .int .u64 (word (y2) 3), .bool true] 53)).alloc (.cells #[.int .u64 0, .int .u64 0, .int .u64 0, .int .u64 0, .int .u64 0, .int .u64 0, .int .u64 0, .int .u64 0, .bool false] 53)) (w.heap.size + 1 + 1) [.int .u64 0, .int .u64 0, .int .u64 0, .int .u64 0, .int .u64 0, .int .u64 0, .int .u64 0, .int .u64 0, .bool false] := by have h := (At.new (((w).alloc (.cells #[.int .u64 (word (x1) 0), .int .u64 (word (x1) 1), .int .u64 (word (x1) 2), .int .u64 (word (x1) 3), .int .u64 (word (x2) 0), .int .u64 (word (x2) 1), .int .u64 (word (x2) 2), .int .u64 (word (x2) 3), .bool false] 53)).alloc (.cells #[.int .u64 (word (y1) 0), .int .u64 (word (y1) 1), .int .u64 (word (y1) 2), .int .u64 (word (y1) 3), .int .u64 (word (y2) 0), .int .u64 (word (y2) 1), .int .u64 (word (y2) 2), .int .u64 (word (y2) 3), .bool true] 53)) #[.int .u64 0, .int .u64 0, .int .u64 0, .int .u64 0, .int .u64 0, .int .u64 0, .int .u64 0, .int .u64 0, .bool false] 53); simpa using h
  have N := (((N.alloc (.cells #[.int .u64 (word (x1) 0), .int .u64 (word (x1) 1), .int .u64 (word (x1) 2), .int .u64 (word (x1) 3), .int .u64 (word (x2) 0), .int .u64 (word (x2) 1), .int .u64 (word (x2) 2), .int .u64 (word (x2) 3), .bool false] 53)).alloc (.cells #[.int .u64 (word (y1) 0), .int .u64 (word (y1) 1), .int .u64 (word (y1) 2), .int .u64 (word (y1) 3), .int .u64 (word (y2) 0), .int .u64 (word (y2) 1), .int .u64 (word (y2) 2), .int .u64 (word (y2) 3), .bool true] 53)).alloc (.cells #[.int .u64 0, .int .u64 0, .int .u64 0, .int .u64 0, .int .u64 0, .int .u64 0, .int .u64 0, .int .u64 0, .bool false] 53))
  have B := (grown_alloc (grown_alloc (grown_alloc B (.cells #[.int .u64 (word (x1) 0), .int .u64 (word (x1) 1), .int .u64 (word (x1) 2), .int .u64 (word (x1) 3), .int .u64 (word (x2) 0), .int .u64 (word (x2) 1), .int .u64 (word (x2) 2), .int .u64 (word (x2) 3), .bool false] 53)) (.cells #[.int .u64 (word (y1) 0), .int .u64 (word (y1) 1), .int .u64 (word (y1) 2), .int .u64 (word (y1) 3), .int .u64 (word (y2) 0), .int .u64 (word (y2) 1), .int .u64 (word (y2) 2), .int .u64 (word (y2) 3), .bool true] 53)) (.cells #[.int .u64 0, .int .u64 0, .int .u64 0, .int .u64 0, .int .u64 0, .int .u64 0, .int .u64 0, .int .u64 0, .bool false] 53))
  refine (HJ.out _ (by assumption)).mono ?_
  rintro e w1 ⟨⟨r, rfl⟩, hN, hg⟩
  replace hg : World.grownBy _ _ (some g) := hg
  have Dx := grown_at hg Dx (fun e2 => by have e3 := Option.some.inj e2; omega)
  have Dy := grown_at hg Dy (fun e2 => by have e3 := Option.some.inj e2; omega)
  have Dr := grown_at hg Dr (fun e2 => by have e3 := Option.some.inj e2; omega)
  have N := hN
  have B := grown_trans B hg
  clear hN hg
  have ax0 := Dx.cell 0 _ rfl
  have zx0 := Dx.free 0 _ rfl
  have ax1 := Dx.cell 1 _ rfl
  have zx1 := Dx.free 1 _ rfl
  have ax2 := Dx.cell 2 _ rfl
  have zx2 := Dx.free 2 _ rfl
  have ax3 := Dx.cell 3 _ rfl
  have zx3 := Dx.free 3 _ rfl
  have ax4 := Dx.cell 4 _ rfl
  have zx4 := Dx.free 4 _ rfl
  have ax5 := Dx.cell 5 _ rfl
  have zx5 := Dx.free 5 _ rfl
  have ax6 := Dx.cell 6 _ rfl
  have zx6 := Dx.free 6 _ rfl
  have ax7 := Dx.cell 7 _ rfl
  have zx7 := Dx.free 7 _ rfl
  have ax8 := Dx.cell 8 _ rfl
  have zx8 := Dx.free 8 _ rfl
  have nx := Dx.lt
  have ay0 := Dy.cell 0 _ rfl
  have zy0 := Dy.free 0 _ rfl
  have ay1 := Dy.cell 1 _ rfl
  have zy1 := Dy.free 1 _ rfl
  have ay2 := Dy.cell 2 _ rfl
  have zy2 := Dy.free 2 _ rfl
  have ay3 := Dy.cell 3 _ rfl
  have zy3 := Dy.free 3 _ rfl
  have ay4 := Dy.cell 4 _ rfl
  have zy4 := Dy.free 4 _ rfl
  have ay5 := Dy.cell 5 _ rfl
  have zy5 := Dy.free 5 _ rfl
  have ay6 := Dy.cell 6 _ rfl
  have zy6 := Dy.free 6 _ rfl
  have ay7 := Dy.cell 7 _ rfl
  have zy7 := Dy.free 7 _ rfl
  have ay8 := Dy.cell 8 _ rfl
  have zy8 := Dy.free 8 _ rfl
  have ny := Dy.lt
  have ar0 := Dr.cell 0 _ rfl
  have zr0 := Dr.free 0 _ rfl
  have ar1 := Dr.cell 1 _ rfl
  have zr1 := Dr.free 1 _ rfl
  have ar2 := Dr.cell 2 _ rfl
  have zr2 := Dr.free 2 _ rfl
  have ar3 := Dr.cell 3 _ rfl
  have zr3 := Dr.free 3 _ rfl
  have ar4 := Dr.cell 4 _ rfl
  have zr4 := Dr.free 4 _ rfl
  have ar5 := Dr.cell 5 _ rfl
  have zr5 := Dr.free 5 _ rfl
  have ar6 := Dr.cell 6 _ rfl
  have zr6 := Dr.free 6 _ rfl
  have ar7 := Dr.cell 7 _ rfl
  have zr7 := Dr.free 7 _ rfl
  have ar8 := Dr.cell 8 _ rfl
  have zr8 := Dr.free 8 _ rfl
  have nr := Dr.lt
  have nG := (N.lt _ rfl).2
  go_wp2_with fail
  clear ax0 zx0 ax1 zx1 ax2 zx2 ax3 zx3 ax4 zx4 ax5 zx5 ax6 zx6 ax7 zx7 ax8 zx8 nx ay0 zy0 ay1 zy1 ay2 zy2 ay3 zy3 ay4 zy4 ay5 zy5 ay6 zy6 ay7 zy7 ay8 zy8 ny ar0 zr0 ar1 zr1 ar2 zr2 ar3 zr3 ar4 zr4 ar5 zr5 ar6 zr6 ar7 zr7 ar8 zr8 nr nG
  refine (sor_any y2 x2 _).mono ?_
  rintro e w2 ⟨rfl, hb2⟩
  have Dx := Dx.below hb2
  have Dy := Dy.below hb2
  have Dr := Dr.below hb2
  have N := N.below hb2
  have B := grown_trans B (below_grown hb2)
  clear hb2
  unfold setV
  have ax0 := Dx.cell 0 _ rfl
  have zx0 := Dx.free 0 _ rfl
  have ax1 := Dx.cell 1 _ rfl
  have zx1 := Dx.free 1 _ rfl
  have ax2 := Dx.cell 2 _ rfl
  have zx2 := Dx.free 2 _ rfl
  have ax3 := Dx.cell 3 _ rfl
  have zx3 := Dx.free 3 _ rfl
  have ax4 := Dx.cell 4 _ rfl
  have zx4 := Dx.free 4 _ rfl
  have ax5 := Dx.cell 5 _ rfl
  have zx5 := Dx.free 5 _ rfl
  have ax6 := Dx.cell 6 _ rfl
  have zx6 := Dx.free 6 _ rfl
  have ax7 := Dx.cell 7 _ rfl
  have zx7 := Dx.free 7 _ rfl
  have ax8 := Dx.cell 8 _ rfl
  have zx8 := Dx.free 8 _ rfl
  have nx := Dx.lt
  have ay0 := Dy.cell 0 _ rfl
  have zy0 := Dy.free 0 _ rfl
  have ay1 := Dy.cell 1 _ rfl
  have zy1 := Dy.free 1 _ rfl
  have ay2 := Dy.cell 2 _ rfl
  have zy2 := Dy.free 2 _ rfl
  have ay3 := Dy.cell 3 _ rfl
  have zy3 := Dy.free 3 _ rfl
  have ay4 := Dy.cell 4 _ rfl
  have zy4 := Dy.free 4 _ rfl
  have ay5 := Dy.cell 5 _ rfl
  have zy5 := Dy.free 5 _ rfl
  have ay6 := Dy.cell 6 _ rfl
  have zy6 := Dy.free 6 _ rfl
  have ay7 := Dy.cell 7 _ rfl
  have zy7 := Dy.free 7 _ rfl
  have ay8 := Dy.cell 8 _ rfl
  have zy8 := Dy.free 8 _ rfl
  have ny := Dy.lt
  have ar0 := Dr.cell 0 _ rfl
  have zr0 := Dr.free 0 _ rfl
  have ar1 := Dr.cell 1 _ rfl
  have zr1 := Dr.free 1 _ rfl
  have ar2 := Dr.cell 2 _ rfl
  have zr2 := Dr.free 2 _ rfl
  have ar3 := Dr.cell 3 _ rfl
  have zr3 := Dr.free 3 _ rfl
  have ar4 := Dr.cell 4 _ rfl
  have zr4 := Dr.free 4 _ rfl
  have ar5 := Dr.cell 5 _ rfl
  have zr5 := Dr.free 5 _ rfl
  have ar6 := Dr.cell 6 _ rfl
  have zr6 := Dr.free 6 _ rfl
  have ar7 := Dr.cell 7 _ rfl
  have zr7 := Dr.free 7 _ rfl
  have ar8 := Dr.cell 8 _ rfl
  have zr8 := Dr.free 8 _ rfl
  have nr := Dr.lt
  have nG := (N.lt _ rfl).2
  go_wp2_with fail
  clear ax0 zx0 ax1 zx1 ax2 zx2 ax3 zx3 ax4 zx4 ax5 zx5 ax6 zx6 ax7 zx7 ax8 zx8 nx ay0 zy0 ay1 zy1 ay2 zy2 ay3 zy3 ay4 zy4 ay5 zy5 ay6 zy6 ay7 zy7 ay8 zy8 ny ar0 zr0 ar1 zr1 ar2 zr2 ar3 zr3 ar4 zr4 ar5 zr5 ar6 zr6 ar7 zr7 ar8 zr8 nr nG
  have Dx : At ((((((((((((((w2).setCell ⟨w.heap.size + 1, 4, none⟩ (.int .u64 (word (y2 ||| x2) 0))).setCell ⟨w.heap.size + 1, 5, none⟩ (.int .u64 (word (y2 ||| x2) 1))).setCell ⟨w.heap.size + 1, 6, none⟩ (.int .u64 (word (y2 ||| x2) 2))).setCell ⟨w.heap.size + 1, 7, none⟩ (.int .u64 (word (y2 ||| x2) 3))).setCell ⟨w.heap.size + 1 + 1, 0, none⟩ (.int .u64 (word (x1) 0))).setCell ⟨w.heap.size + 1 + 1, 1, none⟩ (.int .u64 (word (x1) 1))).setCell ⟨w.heap.size + 1 + 1, 2, none⟩ (.int .u64 (word (x1) 2))).setCell ⟨w.heap.size + 1 + 1, 3, none⟩ (.int .u64 (word (x1) 3))).setCell ⟨w.heap.size + 1 + 1, 4, none⟩ (.int .u64 (word (y2 ||| x2) 0))).setCell ⟨w.heap.size + 1 + 1, 5, none⟩ (.int .u64 (word (y2 ||| x2) 1))).setCell ⟨w.heap.size + 1 + 1, 6, none⟩ (.int .u64 (word (y2 ||| x2) 2))).setCell ⟨w.heap.size + 1 + 1, 7, none⟩ (.int .u64 (word (y2 ||| x2) 3))).setCell ⟨w.heap.size + 1 + 1, 8, none⟩ (.bool false)) (w.heap.size) [.int .u64 (word (x1) 0), .int .u64 (word (x1) 1), .int .u64 (word (x1) 2), .int .u64 (word (x1) 3), .int .u64 (word (x2) 0), .int .u64 (word (x2) 1), .int .u64 (word (x2) 2), .int .u64 (word (x2) 3), .bool false] := (((((((((((((Dx.far (b' := w.heap.size + 1) (j := 4) (by omega) (.int .u64 (word (y2 ||| x2) 0))).far (b' := w.heap.size + 1) (j := 5) (by omega) (.int .u64 (word (y2 ||| x2) 1))).far (b' := w.heap.size + 1) (j := 6) (by omega) (.int .u64 (word (y2 ||| x2) 2))).far (b' := w.heap.size + 1) (j := 7) (by omega) (.int .u64 (word (y2 ||| x2) 3))).far (b' := w.heap.size + 1 + 1) (j := 0) (by omega) (.int .u64 (word (x1) 0))).far (b' := w.heap.size + 1 + 1) (j := 1) (by omega) (.int .u64 (word (x1) 1))).far (b' := w.heap.size + 1 + 1) (j := 2) (by omega) (.int .u64 (word (x1) 2))).far (b' := w.heap.size + 1 + 1) (j := 3) (by omega) (.int .u64 (word (x1) 3))).far (b' := w.heap.size + 1 + 1) (j := 4) (by omega) (.int .u64 (word (y2 ||| x2) 0))).far (b' := w.heap.size + 1 + 1) (j := 5) (by omega) (.int .u64 (word (y2 ||| x2) 1))).far (b' := w.heap.size + 1 + 1) (j := 6) (by omega) (.int .u64 (word (y2 ||| x2) 2))).far (b' := w.heap.size + 1 + 1) (j := 7) (by omega) (.int .u64 (word (y2 ||| x2) 3))).far (b' := w.heap.size + 1 + 1) (j := 8) (by omega) (.bool false))
  have Dy : At ((((((((((((((w2).setCell ⟨w.heap.size + 1, 4, none⟩ (.int .u64 (word (y2 ||| x2) 0))).setCell ⟨w.heap.size + 1, 5, none⟩ (.int .u64 (word (y2 ||| x2) 1))).setCell ⟨w.heap.size + 1, 6, none⟩ (.int .u64 (word (y2 ||| x2) 2))).setCell ⟨w.heap.size + 1, 7, none⟩ (.int .u64 (word (y2 ||| x2) 3))).setCell ⟨w.heap.size + 1 + 1, 0, none⟩ (.int .u64 (word (x1) 0))).setCell ⟨w.heap.size + 1 + 1, 1, none⟩ (.int .u64 (word (x1) 1))).setCell ⟨w.heap.size + 1 + 1, 2, none⟩ (.int .u64 (word (x1) 2))).setCell ⟨w.heap.size + 1 + 1, 3, none⟩ (.int .u64 (word (x1) 3))).setCell ⟨w.heap.size + 1 + 1, 4, none⟩ (.int .u64 (word (y2 ||| x2) 0))).setCell ⟨w.heap.size + 1 + 1, 5, none⟩ (.int .u64 (word (y2 ||| x2) 1))).setCell ⟨w.heap.size + 1 + 1, 6, none⟩ (.int .u64 (word (y2 ||| x2) 2))).setCell ⟨w.heap.size + 1 + 1, 7, none⟩ (.int .u64 (word (y2 ||| x2) 3))).setCell ⟨w.heap.size + 1 + 1, 8, none⟩ (.bool false)) (w.heap.size + 1) [.int .u64 (word (y1) 0), .int .u64 (word (y1) 1), .int .u64 (word (y1) 2), .int .u64 (word (y1) 3), .int .u64 (word (y2 ||| x2) 0), .int .u64 (word (y2 ||| x2) 1), .int .u64 (word (y2 ||| x2) 2), .int .u64 (word (y2 ||| x2) 3), .bool true] := (((((((((((((Dy.set 4 (.int .u64 (word (y2 ||| x2) 0))).set 5 (.int .u64 (word (y2 ||| x2) 1))).set 6 (.int .u64 (word (y2 ||| x2) 2))).set 7 (.int .u64 (word (y2 ||| x2) 3))).far (b' := w.heap.size + 1 + 1) (j := 0) (by omega) (.int .u64 (word (x1) 0))).far (b' := w.heap.size + 1 + 1) (j := 1) (by omega) (.int .u64 (word (x1) 1))).far (b' := w.heap.size + 1 + 1) (j := 2) (by omega) (.int .u64 (word (x1) 2))).far (b' := w.heap.size + 1 + 1) (j := 3) (by omega) (.int .u64 (word (x1) 3))).far (b' := w.heap.size + 1 + 1) (j := 4) (by omega) (.int .u64 (word (y2 ||| x2) 0))).far (b' := w.heap.size + 1 + 1) (j := 5) (by omega) (.int .u64 (word (y2 ||| x2) 1))).far (b' := w.heap.size + 1 + 1) (j := 6) (by omega) (.int .u64 (word (y2 ||| x2) 2))).far (b' := w.heap.size + 1 + 1) (j := 7) (by omega) (.int .u64 (word (y2 ||| x2) 3))).far (b' := w.heap.size + 1 + 1) (j := 8) (by omega) (.bool false))
  have Dr : At ((((((((((((((w2).setCell ⟨w.heap.size + 1, 4, none⟩ (.int .u64 (word (y2 ||| x2) 0))).setCell ⟨w.heap.size + 1, 5, none⟩ (.int .u64 (word (y2 ||| x2) 1))).setCell ⟨w.heap.size + 1, 6, none⟩ (.int .u64 (word (y2 ||| x2) 2))).setCell ⟨w.heap.size + 1, 7, none⟩ (.int .u64 (word (y2 ||| x2) 3))).setCell ⟨w.heap.size + 1 + 1, 0, none⟩ (.int .u64 (word (x1) 0))).setCell ⟨w.heap.size + 1 + 1, 1, none⟩ (.int .u64 (word (x1) 1))).setCell ⟨w.heap.size + 1 + 1, 2, none⟩ (.int .u64 (word (x1) 2))).setCell ⟨w.heap.size + 1 + 1, 3, none⟩ (.int .u64 (word (x1) 3))).setCell ⟨w.heap.size + 1 + 1, 4, none⟩ (.int .u64 (word (y2 ||| x2) 0))).setCell ⟨w.heap.size + 1 + 1, 5, none⟩ (.int .u64 (word (y2 ||| x2) 1))).setCell ⟨w.heap.size + 1 + 1, 6, none⟩ (.int .u64 (word (y2 ||| x2) 2))).setCell ⟨w.heap.size + 1 + 1, 7, none⟩ (.int .u64 (word (y2 ||| x2) 3))).setCell ⟨w.heap.size + 1 + 1, 8, none⟩ (.bool false)) (w.heap.size + 1 + 1) [.int .u64 (word (x1) 0), .int .u64 (word (x1) 1), .int .u64 (word (x1) 2), .int .u64 (word (x1) 3), .int .u64 (word (y2 ||| x2) 0), .int .u64 (word (y2 ||| x2) 1), .int .u64 (word (y2 ||| x2) 2), .int .u64 (word (y2 ||| x2) 3), .bool false] := (((((((((((((Dr.far (b' := w.heap.size + 1) (j := 4) (by omega) (.int .u64 (word (y2 ||| x2) 0))).far (b' := w.heap.size + 1) (j := 5) (by omega) (.int .u64 (word (y2 ||| x2) 1))).far (b' := w.heap.size + 1) (j := 6) (by omega) (.int .u64 (word (y2 ||| x2) 2))).far (b' := w.heap.size + 1) (j := 7) (by omega) (.int .u64 (word (y2 ||| x2) 3))).set 0 (.int .u64 (word (x1) 0))).set 1 (.int .u64 (word (x1) 1))).set 2 (.int .u64 (word (x1) 2))).set 3 (.int .u64 (word (x1) 3))).set 4 (.int .u64 (word (y2 ||| x2) 0))).set 5 (.int .u64 (word (y2 ||| x2) 1))).set 6 (.int .u64 (word (y2 ||| x2) 2))).set 7 (.int .u64 (word (y2 ||| x2) 3))).set 8 (.bool false))
  have N := (((((((((((((N.setCell (b := w.heap.size + 1) (j := 4) (by omega) (by omega) (.int .u64 (word (y2 ||| x2) 0))).setCell (b := w.heap.size + 1) (j := 5) (by omega) (by omega) (.int .u64 (word (y2 ||| x2) 1))).setCell (b := w.heap.size + 1) (j := 6) (by omega) (by omega) (.int .u64 (word (y2 ||| x2) 2))).setCell (b := w.heap.size + 1) (j := 7) (by omega) (by omega) (.int .u64 (word (y2 ||| x2) 3))).setCell (b := w.heap.size + 1 + 1) (j := 0) (by omega) (by omega) (.int .u64 (word (x1) 0))).setCell (b := w.heap.size + 1 + 1) (j := 1) (by omega) (by omega) (.int .u64 (word (x1) 1))).setCell (b := w.heap.size + 1 + 1) (j := 2) (by omega) (by omega) (.int .u64 (word (x1) 2))).setCell (b := w.heap.size + 1 + 1) (j := 3) (by omega) (by omega) (.int .u64 (word (x1) 3))).setCell (b := w.heap.size + 1 + 1) (j := 4) (by omega) (by omega) (.int .u64 (word (y2 ||| x2) 0))).setCell (b := w.heap.size + 1 + 1) (j := 5) (by omega) (by omega) (.int .u64 (word (y2 ||| x2) 1))).setCell (b := w.heap.size + 1 + 1) (j := 6) (by omega) (by omega) (.int .u64 (word (y2 ||| x2) 2))).setCell (b := w.heap.size + 1 + 1) (j := 7) (by omega) (by omega) (.int .u64 (word (y2 ||| x2) 3))).setCell (b := w.heap.size + 1 + 1) (j := 8) (by omega) (by omega) (.bool false))
  have B := (grown_set (grown_set (grown_set (grown_set (grown_set (grown_set (grown_set (grown_set (grown_set (grown_set (grown_set (grown_set (grown_set B (p := ⟨w.heap.size + 1, 4, none⟩) (by dsimp only; omega) (.int .u64 (word (y2 ||| x2) 0))) (p := ⟨w.heap.size + 1, 5, none⟩) (by dsimp only; omega) (.int .u64 (word (y2 ||| x2) 1))) (p := ⟨w.heap.size + 1, 6, none⟩) (by dsimp only; omega) (.int .u64 (word (y2 ||| x2) 2))) (p := ⟨w.heap.size + 1, 7, none⟩) (by dsimp only; omega) (.int .u64 (word (y2 ||| x2) 3))) (p := ⟨w.heap.size + 1 + 1, 0, none⟩) (by dsimp only; omega) (.int .u64 (word (x1) 0))) (p := ⟨w.heap.size + 1 + 1, 1, none⟩) (by dsimp only; omega) (.int .u64 (word (x1) 1))) (p := ⟨w.heap.size + 1 + 1, 2, none⟩) (by dsimp only; omega) (.int .u64 (word (x1) 2))) (p := ⟨w.heap.size + 1 + 1, 3, none⟩) (by dsimp only; omega) (.int .u64 (word (x1) 3))) (p := ⟨w.heap.size + 1 + 1, 4, none⟩) (by dsimp only; omega) (.int .u64 (word (y2 ||| x2) 0))) (p := ⟨w.heap.size + 1 + 1, 5, none⟩) (by dsimp only; omega) (.int .u64 (word (y2 ||| x2) 1))) (p := ⟨w.heap.size + 1 + 1, 6, none⟩) (by dsimp only; omega) (.int .u64 (word (y2 ||| x2) 2))) (p := ⟨w.heap.size + 1 + 1, 7, none⟩) (by dsimp only; omega) (.int .u64 (word (y2 ||| x2) 3))) (p := ⟨w.heap.size + 1 + 1, 8, none⟩) (by dsimp only; omega) (.bool false))
  have ax0 := Dx.cell 0 _ rfl
  have zx0 := Dx.free 0 _ rfl
  have ax1 := Dx.cell 1 _ rfl
  have zx1 := Dx.free 1 _ rfl
  have ax2 := Dx.cell 2 _ rfl
  have zx2 := Dx.free 2 _ rfl
  have ax3 := Dx.cell 3 _ rfl
  have zx3 := Dx.free 3 _ rfl
  have ax4 := Dx.cell 4 _ rfl
  have zx4 := Dx.free 4 _ rfl
  have ax5 := Dx.cell 5 _ rfl
  have zx5 := Dx.free 5 _ rfl
  have ax6 := Dx.cell 6 _ rfl
  have zx6 := Dx.free 6 _ rfl
  have ax7 := Dx.cell 7 _ rfl
  have zx7 := Dx.free 7 _ rfl
  have ax8 := Dx.cell 8 _ rfl
  have zx8 := Dx.free 8 _ rfl
  have nx := Dx.lt
  have ay0 := Dy.cell 0 _ rfl
  have zy0 := Dy.free 0 _ rfl
  have ay1 := Dy.cell 1 _ rfl
  have zy1 := Dy.free 1 _ rfl
  have ay2 := Dy.cell 2 _ rfl
  have zy2 := Dy.free 2 _ rfl
  have ay3 := Dy.cell 3 _ rfl
  have zy3 := Dy.free 3 _ rfl
  have ay4 := Dy.cell 4 _ rfl
  have zy4 := Dy.free 4 _ rfl
  have ay5 := Dy.cell 5 _ rfl
  have zy5 := Dy.free 5 _ rfl
  have ay6 := Dy.cell 6 _ rfl
  have zy6 := Dy.free 6 _ rfl
  have ay7 := Dy.cell 7 _ rfl
  have zy7 := Dy.free 7 _ rfl
  have ay8 := Dy.cell 8 _ rfl
  have zy8 := Dy.free 8 _ rfl
  have ny := Dy.lt
  have ar0 := Dr.cell 0 _ rfl
  have zr0 := Dr.free 0 _ rfl
  have ar1 := Dr.cell 1 _ rfl
  have zr1 := Dr.free 1 _ rfl
  have ar2 := Dr.cell 2 _ rfl
  have zr2 := Dr.free 2 _ rfl
  have ar3 := Dr.cell 3 _ rfl
  have zr3 := Dr.free 3 _ rfl
  have ar4 := Dr.cell 4 _ rfl
  have zr4 := Dr.free 4 _ rfl
  have ar5 := Dr.cell 5 _ rfl
  have zr5 := Dr.free 5 _ rfl
  have ar6 := Dr.cell 6 _ rfl
  have zr6 := Dr.free 6 _ rfl
  have ar7 := Dr.cell 7 _ rfl
  have zr7 := Dr.free 7 _ rfl
  have ar8 := Dr.cell 8 _ rfl
  have zr8 := Dr.free 8 _ rfl
  have nr := Dr.lt
  have nG := (N.lt _ rfl).2
  refine bodyPost_ret (by simp [results, Tryd.results31, go_sem, ar0, zr0, ar1, zr1, ar2, zr2, ar3, zr3, ar4, zr4, ar5, zr5, ar6, zr6, ar7, zr7, ar8, zr8, nr]; try rfl) rfl ?_
  exact ⟨rfl, N, B⟩
set_option maxHeartbeats 4000000 in
theorem chain_tf (base g cap : Nat) (n : Rx.Nt) (x1 x2 y1 y2 : Nat) (hl : ∀ i, i < 256 → x2.testBit i = true → i < n.length) (hn : 0 < n.length) (w : World) (N : NetR base w (rowV g n.length cap) n) :
    Calls Tryd.prog 31 #[rowV g n.length cap, pceV ⟨x1, x2, true⟩, pceV ⟨y1, y2, false⟩] w fun e w' => e = .returned (pceV (seqP ⟨x1, x2, true⟩ ⟨y1, y2, false⟩)) ∧ NetR base w' (rowV g n.length cap) (Rx.joinN x2 y1 n) ∧ w.grownBy w' (some g) := by
  have nG := (N.lt _ rfl).2
  have nT := N.tab.lt
  have hJ := fun W (h : NetR base W (rowV g n.length cap) n) => join_any base _ n x2 y1 hl hn W h
  have HJ := Lib.hid hJ
  have B : w.grownBy w (some g) := below_grown (Below.refl _ _)
  clear hl hJ
  unfold pceV
  dsimp only
  go_enter Tryd.func31, Tryd.ntmps31
  go_wp2_with fail
  have Dx : At ((((w).alloc (.cells #[.int .u64 (word (x1) 0), .int .u64 (word (x1) 1), .int .u64 (word (x1) 2), .int .u64 (word (x1) 3), .int .u64 (word (x2) 0), .int .u64 (word (x2) 1), .int .u64 (word (x2) 2), .int .u64 (word (x2) 3), .bool true] 53)).alloc (.cells #[.int .u64 (word (y1) 0), .int .u64 (word (y1) 1), .int .u64 (word (y1) 2), .int .u64 (word (y1) 3), .int .u64 (word (y2) 0), .int .u64 (word (y2) 1), .int .u64 (word (y2) 2), .int .u64 (word (y2) 3), .bool false] 53)).alloc (.cells #[.int .u64 0, .int .u64 0, .int .u64 0, .int .u64 0, .int .u64 0, .int .u64 0, .int .u64 0, .int .u64 0, .bool false] 53)) (w.heap.size) [.int .u64 (word (x1) 0), .int .u64 (word (x1) 1), .int .u64 (word (x1) 2), .int .u64 (word (x1) 3), .int .u64 (word (x2) 0), .int .u64 (word (x2) 1), .int .u64 (word (x2) 2), .int .u64 (word (x2) 3), .bool true] := by have h := (((At.new (w) #[.int .u64 (word (x1) 0), .int .u64 (word (x1) 1), .int .u64 (word (x1) 2), .int .u64 (word (x1) 3), .int .u64 (word (x2) 0), .int .u64 (word (x2) 1), .int .u64 (word (x2) 2), .int .u64 (word (x2) 3), .bool true] 53).alloc (.cells #[.int .u64 (word (y1) 0), .int .u64 (word (y1) 1), .int .u64 (word (y1) 2), .int .u64 (word (y1) 3), .int .u64 (word (y2) 0), .int .u64 (word (y2) 1), .int .u64 (word (y2) 2), .int .u64 (word (y2) 3), .bool false] 53)).alloc (.cells #[.int .u64 0, .int .u64 0, .int .u64 0, .int .u64 0, .int .u64 0, .int .u64 0, .int .u64 0, .int .u64 0, .bool false] 53)); simpa using h
  have Dy : At ((((w).alloc (.cells #[.int .u64 (word (x1) 0), .int .u64 (word (x1) 1), .int .u64 (word (x1) 2), .int .u64 (word (x1) 3), .int .u64 (word (x2) 0), .int .u64 (word (x2) 1), .int .u64 (word (x2) 2), .int .u64 (word (x2) 3), .bool true] 53)).alloc (.cells #[.int .u64 (word (y1) 0), .int .u64 (word (y1) 1), .int .u64 (word (y1) 2), .int .u64 (word (y1) 3), .int .u64 (word (y2) 0), .int .u64 (word (y2) 1), .int .u64 (word (y2) 2), .int .u64 (word (y2) 3), .bool false] 53)).alloc (.cells #[.int .u64 0, .int .u64 0, .int .u64 0, .int .u64 0, .int .u64 0, .int .u64 0, .int .u64 0, .int .u64 0, .bool false] 53)) (w.heap.size + 1) [.int .u64 (word (y1) 0), .int .u64 (word (y1) 1), .int .u64 (word (y1) 2), .int .u64 (word (y1) 3), .int .u64 (word (y2) 0), .int .u64 (word (y2) 1), .int .u64 (word (y2) 2), .int .u64 (word (y2) 3), .bool false] := by have h := ((At.new ((w).alloc (.cells #[.int .u64 (word (x1) 0), .int .u64 (word (x1) 1), .int .u64 (word (x1) 2), .int .u64 (word (x1) 3), .int .u64 (word (x2) 0), .int .u64 (word (x2) 1), .int .u64 (word (x2) 2), .int .u64 (word (x2) 3), .bool true] 53)) #[.int .u64 (word (y1) 0), .int .u64 (word (y1) 1), .int .u64 (word (y1) 2), .int .u64 (word (y1) 3), .int .u64 (word (y2) 0), .int .u64 (word (y2) 1), .int .u64 (word (y2) 2), .int .u64 (word (y2) 3), .bool false] 53).alloc (.cells #[.int .u64 0, .int .u64 0, .int .u64 0, .int .u64 0, .int .u64 0, .int .u64 0, .int .u64 0, .int .u64 0, .bool false] 53)); simpa using h
  have Dr : At ((((w).alloc (.cells #[.int .u64 (word (x1) 0), .int .u64 (word (x1) 1), .int .u64 (word (x1) 2), .int .u64 (word (x1) 3), .int .u64 (word (x2) 0), .int .u64 (word (x2) 1), .int .u64 (word (x2) 2), .int .u64 (word (x2) 3), .bool true] 53)).alloc (.cells #[.int .u64 (word (y1) 0), .int .u64 (word (y1) 1), .int .u64 (word (y1) 2), .int .u64 (word (y1) 3), .int .u64 (word (y2) 0), .int .u64 (word (y2) 1), .int .u64 (word (y2) 2), .int .u64 (word (y2) 3), .bool false] 53)).alloc (.cells #[.int .u64 0, .int .u64 0, .int .u64 0, .int .u64 0, .int .u64 0, .int .u64 0, .int .u64 0, .int .u64 0, .bool false] 53)) (w.heap.size + 1 + 1) [.int .u64 0, .int .u64 0, .int .u64 0, .int .u64 0, .int .u64 0, .int .u64 0, .int .u64 0, .int .u64 0, .bool false] := by have h := (At.new (((w).alloc (.cells #[.int .u64 (word (x1) 0), .int .u64 (word (x1) 1), .int .u64 (word (x1) 2), .int .u64 (word (x1) 3), .int .u64 (word (x2) 0), .int .u64 (word (x2) 1), .int .u64 (word (x2) 2), .int .u64 (word (x2) 3), .bool true] 53)).alloc (.cells #[.int .u64 (word (y1) 0), .int .u64 (word (y1) 1), .int .u64 (word (y1) 2), .int .u64 (word (y1) 3), .int .u64 (word (y2) 0), .int .u64 (word (y2) 1), .int .u64 (word (y2) 2), .int .u64 (word (y2) 3), .bool false] 53)) #[.int .u64 0, .int .u64 0, .int .u64 0, .int .u64 0, .int .u64 0, .int .u64 0, .int .u64 0, .int .u64 0, .bool false] 53); simpa using h
  have N := (((N.alloc (.cells #[.int .u64 (word (x1) 0), .int .u64 (word (x1) 1), .int .u64 (word (x1) 2), .int .u64 (word (x1) 3), .int .u64 (word (x2) 0), .int .u64 (word (x2) 1), .int .u64 (word (x2) 2), .int .u64 (word (x2) 3), .bool true] 53)).alloc (.cells #[.int .u64 (word (y1) 0), .int .u64 (word (y1) 1), .int .u64 (word (y1) 2), .int .u64 (word (y1) 3), .int .u64 (word (y2) 0), .int .u64 (word (y2) 1), .int .u64 (word (y2) 2), .int .u64 (word (y2) 3), .bool false] 53)).alloc (.cells #[.int .u64 0, .int .u64 0, .int .u64 0, .int .u64 0, .int .u64 0, .int .u64 0, .int .u64 0, .int .u64 0, .bool false] 53))
  have B := (grown_alloc (grown_alloc (grown_alloc B (.cells #[.int .u64 (word (x1) 0), .int .u64 (word (x1) 1), .int .u64 (word (x1) 2), .int .u64 (word (x1) 3), .int .u64 (word (x2) 0), .int .u64 (word (x2) 1), .int .u64 (word (x2) 2), .int .u64 (word (x2) 3), .bool true] 53)) (.cells #[.int .u64 (word (y1) 0), .int .u64 (word (y1) 1), .int .u64 (word (y1) 2), .int .u64 (word (y1) 3), .int .u64 (word (y2) 0), .int .u64 (word (y2) 1), .int .u64 (word (y2) 2), .int .u64 (word (y2) 3), .bool false] 53)) (.cells #[.int .u64 0, .int .u64 0, .int .u64 0, .int .u64 0, .int .u64 0, .int .u64 0, .int .u64 0, .int .u64 0, .bool false] 53))
  refine (HJ.out _ (by assumption)).mono ?_
  rintro e w1 ⟨⟨r, rfl⟩, hN, hg⟩
  replace hg : World.grownBy _ _ (some g) := hg
  have Dx := grown_at hg Dx (fun e2 => by have e3 := Option.some.inj e2; omega)
  have Dy := grown_at hg Dy (fun e2 => by have e3 := Option.some.inj e2; omega)
  have Dr := grown_at hg Dr (fun e2 => by have e3 := Option.some.inj e2; omega)
  have N := hN
  have B := grown_trans B hg
  clear hN hg
  have ax0 := Dx.cell 0 _ rfl
  have zx0 := Dx.free 0 _ rfl
  have ax1 := Dx.cell 1 _ rfl
  have zx1 := Dx.free 1 _ rfl
  have ax2 := Dx.cell 2 _ rfl
  have zx2 := Dx.free 2 _ rfl
  have ax3 := Dx.cell 3 _ rfl
  have zx3 := Dx.free 3 _ rfl
  have ax4 := Dx.cell 4 _ rfl
  have zx4 := Dx.free 4 _ rfl
  have ax5 := Dx.cell 5 _ rfl
  have zx5 := Dx.free 5 _ rfl
  have ax6 := Dx.cell 6 _ rfl
  have zx6 := Dx.free 6 _ rfl
  have ax7 := Dx.cell 7 _ rfl
  have zx7 := Dx.free 7 _ rfl
  have ax8 := Dx.cell 8 _ rfl
  have zx8 := Dx.free 8 _ rfl
  have nx := Dx.lt
  have ay0 := Dy.cell 0 _ rfl
  have zy0 := Dy.free 0 _ rfl
  have ay1 := Dy.cell 1 _ rfl
  have zy1 := Dy.free 1 _ rfl
  have ay2 := Dy.cell 2 _ rfl
  have zy2 := Dy.free 2 _ rfl
  have ay3 := Dy.cell 3 _ rfl
  have zy3 := Dy.free 3 _ rfl
  have ay4 := Dy.cell 4 _ rfl
  have zy4 := Dy.free 4 _ rfl
  have ay5 := Dy.cell 5 _ rfl
  have zy5 := Dy.free 5 _ rfl
  have ay6 := Dy.cell 6 _ rfl
  have zy6 := Dy.free 6 _ rfl
  have ay7 := Dy.cell 7 _ rfl
  have zy7 := Dy.free 7 _ rfl
  have ay8 := Dy.cell 8 _ rfl
  have zy8 := Dy.free 8 _ rfl
  have ny := Dy.lt
  have ar0 := Dr.cell 0 _ rfl
  have zr0 := Dr.free 0 _ rfl
  have ar1 := Dr.cell 1 _ rfl
  have zr1 := Dr.free 1 _ rfl
  have ar2 := Dr.cell 2 _ rfl
  have zr2 := Dr.free 2 _ rfl
  have ar3 := Dr.cell 3 _ rfl
  have zr3 := Dr.free 3 _ rfl
  have ar4 := Dr.cell 4 _ rfl
  have zr4 := Dr.free 4 _ rfl
  have ar5 := Dr.cell 5 _ rfl
  have zr5 := Dr.free 5 _ rfl
  have ar6 := Dr.cell 6 _ rfl
  have zr6 := Dr.free 6 _ rfl
  have ar7 := Dr.cell 7 _ rfl
  have zr7 := Dr.free 7 _ rfl
  have ar8 := Dr.cell 8 _ rfl
  have zr8 := Dr.free 8 _ rfl
  have nr := Dr.lt
  have nG := (N.lt _ rfl).2
  go_wp2_with fail
  clear ax0 zx0 ax1 zx1 ax2 zx2 ax3 zx3 ax4 zx4 ax5 zx5 ax6 zx6 ax7 zx7 ax8 zx8 nx ay0 zy0 ay1 zy1 ay2 zy2 ay3 zy3 ay4 zy4 ay5 zy5 ay6 zy6 ay7 zy7 ay8 zy8 ny ar0 zr0 ar1 zr1 ar2 zr2 ar3 zr3 ar4 zr4 ar5 zr5 ar6 zr6 ar7 zr7 ar8 zr8 nr nG
  refine (sor_any x1 y1 _).mono ?_
  rintro e w2 ⟨rfl, hb2⟩
  have Dx := Dx.below hb2
  have Dy := Dy.below hb2
  have Dr := Dr.below hb2
  have N := N.below hb2
  have B := grown_trans B (below_grown hb2)
  clear hb2
  unfold setV
  have ax0 := Dx.cell 0 _ rfl
  have zx0 := Dx.free 0 _ rfl
  have ax1 := Dx.cell 1 _ rfl
  have zx1 := Dx.free 1 _ rfl
  have ax2 := Dx.cell 2 _ rfl
  have zx2 := Dx.free 2 _ rfl
  have ax3 := Dx.cell 3 _ rfl
  have zx3 := Dx.free 3 _ rfl
  have ax4 := Dx.cell 4 _ rfl
  have zx4 := Dx.free 4 _ rfl
  have ax5 := Dx.cell 5 _ rfl
  have zx5 := Dx.free 5 _ rfl
  have ax6 := Dx.cell 6 _ rfl
  have zx6 := Dx.free 6 _ rfl
  have ax7 := Dx.cell 7 _ rfl
  have zx7 := Dx.free 7 _ rfl
  have ax8 := Dx.cell 8 _ rfl
  have zx8 := Dx.free 8 _ rfl
  have nx := Dx.lt
  have ay0 := Dy.cell 0 _ rfl
  have zy0 := Dy.free 0 _ rfl
  have ay1 := Dy.cell 1 _ rfl
  have zy1 := Dy.free 1 _ rfl
  have ay2 := Dy.cell 2 _ rfl
  have zy2 := Dy.free 2 _ rfl
  have ay3 := Dy.cell 3 _ rfl
  have zy3 := Dy.free 3 _ rfl
  have ay4 := Dy.cell 4 _ rfl
  have zy4 := Dy.free 4 _ rfl
  have ay5 := Dy.cell 5 _ rfl
  have zy5 := Dy.free 5 _ rfl
  have ay6 := Dy.cell 6 _ rfl
  have zy6 := Dy.free 6 _ rfl
  have ay7 := Dy.cell 7 _ rfl
  have zy7 := Dy.free 7 _ rfl
  have ay8 := Dy.cell 8 _ rfl
  have zy8 := Dy.free 8 _ rfl
  have ny := Dy.lt
  have ar0 := Dr.cell 0 _ rfl
  have zr0 := Dr.free 0 _ rfl
  have ar1 := Dr.cell 1 _ rfl
  have zr1 := Dr.free 1 _ rfl
  have ar2 := Dr.cell 2 _ rfl
  have zr2 := Dr.free 2 _ rfl
  have ar3 := Dr.cell 3 _ rfl
  have zr3 := Dr.free 3 _ rfl
  have ar4 := Dr.cell 4 _ rfl
  have zr4 := Dr.free 4 _ rfl
  have ar5 := Dr.cell 5 _ rfl
  have zr5 := Dr.free 5 _ rfl
  have ar6 := Dr.cell 6 _ rfl
  have zr6 := Dr.free 6 _ rfl
  have ar7 := Dr.cell 7 _ rfl
  have zr7 := Dr.free 7 _ rfl
  have ar8 := Dr.cell 8 _ rfl
  have zr8 := Dr.free 8 _ rfl
  have nr := Dr.lt
  have nG := (N.lt _ rfl).2
  go_wp2_with fail
  clear ax0 zx0 ax1 zx1 ax2 zx2 ax3 zx3 ax4 zx4 ax5 zx5 ax6 zx6 ax7 zx7 ax8 zx8 nx ay0 zy0 ay1 zy1 ay2 zy2 ay3 zy3 ay4 zy4 ay5 zy5 ay6 zy6 ay7 zy7 ay8 zy8 ny ar0 zr0 ar1 zr1 ar2 zr2 ar3 zr3 ar4 zr4 ar5 zr5 ar6 zr6 ar7 zr7 ar8 zr8 nr nG
  have Dx : At ((((((((((((((w2).setCell ⟨w.heap.size, 0, none⟩ (.int .u64 (word (x1 ||| y1) 0))).setCell ⟨w.heap.size, 1, none⟩ (.int .u64 (word (x1 ||| y1) 1))).setCell ⟨w.heap.size, 2, none⟩ (.int .u64 (word (x1 ||| y1) 2))).setCell ⟨w.heap.size, 3, none⟩ (.int .u64 (word (x1 ||| y1) 3))).setCell ⟨w.heap.size + 1 + 1, 0, none⟩ (.int .u64 (word (x1 ||| y1) 0))).setCell ⟨w.heap.size + 1 + 1, 1, none⟩ (.int .u64 (word (x1 ||| y1) 1))).setCell ⟨w.heap.size + 1 + 1, 2, none⟩ (.int .u64 (word (x1 ||| y1) 2))).setCell ⟨w.heap.size + 1 + 1, 3, none⟩ (.int .u64 (word (x1 ||| y1) 3))).setCell ⟨w.heap.size + 1 + 1, 4, none⟩ (.int .u64 (word (y2) 0))).setCell ⟨w.heap.size + 1 + 1, 5, none⟩ (.int .u64 (word (y2) 1))).setCell ⟨w.heap.size + 1 + 1, 6, none⟩ (.int .u64 (word (y2) 2))).setCell ⟨w.heap.size + 1 + 1, 7, none⟩ (.int .u64 (word (y2) 3))).setCell ⟨w.heap.size + 1 + 1, 8, none⟩ (.bool false)) (w.heap.size) [.int .u64 (word (x1 ||| y1) 0), .int .u64 (word (x1 ||| y1) 1), .int .u64 (word (x1 ||| y1) 2), .int .u64 (word (x1 ||| y1) 3), .int .u64 (word (x2) 0), .int .u64 (word (x2) 1), .int .u64 (word (x2) 2), .int .u64 (word (x2) 3), .bool true] := (((((((((((((Dx.set 0 (.int .u64 (word (x1 ||| y1) 0))).set 1 (.int .u64 (word (x1 ||| y1) 1))).set 2 (.int .u64 (word (x1 ||| y1) 2))).set 3 (.int .u64 (word (x1 ||| y1) 3))).far (b' := w.heap.size + 1 + 1) (j := 0) (by omega) (.int .u64 (word (x1 ||| y1) 0))).far (b' := w.heap.size + 1 + 1) (j := 1) (by omega) (.int .u64 (word (x1 ||| y1) 1))).far (b' := w.heap.size + 1 + 1) (j := 2) (by omega) (.int .u64 (word (x1 ||| y1) 2))).far (b' := w.heap.size + 1 + 1) (j := 3) (by omega) (.int .u64 (word (x1 ||| y1) 3))).far (b' := w.heap.size + 1 + 1) (j := 4) (by omega) (.int .u64 (word (y2) 0))).far (b' := w.heap.size + 1 + 1) (j := 5) (by omega) (.int .u64 (word (y2) 1))).far (b' := w.heap.size + 1 + 1) (j := 6) (by omega) (.int .u64 (word (y2) 2))).far (b' := w.heap.size + 1 + 1) (j := 7) (by omega) (.int .u64 (word (y2) 3))).far (b' := w.heap.size + 1 + 1) (j := 8) (by omega) (.bool false))
  have Dy : At ((((((((((((((w2).setCell ⟨w.heap.size, 0, none⟩ (.int .u64 (word (x1 ||| y1) 0))).setCell ⟨w.heap.size, 1, none⟩ (.int .u64 (word (x1 ||| y1) 1))).setCell ⟨w.heap.size, 2, none⟩ (.int .u64 (word (x1 ||| y1) 2))).setCell ⟨w.heap.size, 3, none⟩ (.int .u64 (word (x1 ||| y1) 3))).setCell ⟨w.heap.size + 1 + 1, 0, none⟩ (.int .u64 (word (x1 ||| y1) 0))).setCell ⟨w.heap.size + 1 + 1, 1, none⟩ (.int .u64 (word (x1 ||| y1) 1))).setCell ⟨w.heap.size + 1 + 1, 2, none⟩ (.int .u64 (word (x1 ||| y1) 2))).setCell ⟨w.heap.size + 1 + 1, 3, none⟩ (.int .u64 (word (x1 ||| y1) 3))).setCell ⟨w.heap.size + 1 + 1, 4, none⟩ (.int .u64 (word (y2) 0))).setCell ⟨w.heap.size + 1 + 1, 5, none⟩ (.int .u64 (word (y2) 1))).setCell ⟨w.heap.size + 1 + 1, 6, none⟩ (.int .u64 (word (y2) 2))).setCell ⟨w.heap.size + 1 + 1, 7, none⟩ (.int .u64 (word (y2) 3))).setCell ⟨w.heap.size + 1 + 1, 8, none⟩ (.bool false)) (w.heap.size + 1) [.int .u64 (word (y1) 0), .int .u64 (word (y1) 1), .int .u64 (word (y1) 2), .int .u64 (word (y1) 3), .int .u64 (word (y2) 0), .int .u64 (word (y2) 1), .int .u64 (word (y2) 2), .int .u64 (word (y2) 3), .bool false] := (((((((((((((Dy.far (b' := w.heap.size) (j := 0) (by omega) (.int .u64 (word (x1 ||| y1) 0))).far (b' := w.heap.size) (j := 1) (by omega) (.int .u64 (word (x1 ||| y1) 1))).far (b' := w.heap.size) (j := 2) (by omega) (.int .u64 (word (x1 ||| y1) 2))).far (b' := w.heap.size) (j := 3) (by omega) (.int .u64 (word (x1 ||| y1) 3))).far (b' := w.heap.size + 1 + 1) (j := 0) (by omega) (.int .u64 (word (x1 ||| y1) 0))).far (b' := w.heap.size + 1 + 1) (j := 1) (by omega) (.int .u64 (word (x1 ||| y1) 1))).far (b' := w.heap.size + 1 + 1) (j := 2) (by omega) (.int .u64 (word (x1 ||| y1) 2))).far (b' := w.heap.size + 1 + 1) (j := 3) (by omega) (.int .u64 (word (x1 ||| y1) 3))).far (b' := w.heap.size + 1 + 1) (j := 4) (by omega) (.int .u64 (word (y2) 0))).far (b' := w.heap.size + 1 + 1) (j := 5) (by omega) (.int .u64 (word (y2) 1))).far (b' := w.heap.size + 1 + 1) (j := 6) (by omega) (.int .u64 (word (y2) 2))).far (b' := w.heap.size + 1 + 1) (j := 7) (by omega) (.int .u64 (word (y2) 3))).far (b' := w.heap.size + 1 + 1) (j := 8) (by omega) (.bool false))
  have Dr : At ((((((((((((((w2).setCell ⟨w.heap.size, 0, none⟩ (.int .u64 (word (x1 ||| y1) 0))).setCell ⟨w.heap.size, 1, none⟩ (.int .u64 (word (x1 ||| y1) 1))).setCell ⟨w.heap.size, 2, none⟩ (.int .u64 (word (x1 ||| y1) 2))).setCell ⟨w.heap.size, 3, none⟩ (.int .u64 (word (x1 ||| y1) 3))).setCell ⟨w.heap.size + 1 + 1, 0, none⟩ (.int .u64 (word (x1 ||| y1) 0))).setCell ⟨w.heap.size + 1 + 1, 1, none⟩ (.int .u64 (word (x1 ||| y1) 1))).setCell ⟨w.heap.size + 1 + 1, 2, none⟩ (.int .u64 (word (x1 ||| y1) 2))).setCell ⟨w.heap.size + 1 + 1, 3, none⟩ (.int .u64 (word (x1 ||| y1) 3))).setCell ⟨w.heap.size + 1 + 1, 4, none⟩ (.int .u64 (word (y2) 0))).setCell ⟨w.heap.size + 1 + 1, 5, none⟩ (.int .u64 (word (y2) 1))).setCell ⟨w.heap.size + 1 + 1, 6, none⟩ (.int .u64 (word (y2) 2))).setCell ⟨w.heap.size + 1 + 1, 7, none⟩ (.int .u64 (word (y2) 3))).setCell ⟨w.heap.size + 1 + 1, 8, none⟩ (.bool false)) (w.heap.size + 1 + 1) [.int .u64 (word (x1 ||| y1) 0), .int .u64 (word (x1 ||| y1) 1), .int .u64 (word (x1 ||| y1) 2), .int .u64 (word (x1 ||| y1) 3), .int .u64 (word (y2) 0), .int .u64 (word (y2) 1), .int .u64 (word (y2) 2), .int .u64 (word (y2) 3), .bool false] := (((((((((((((Dr.far (b' := w.heap.size) (j := 0) (by omega) (.int .u64 (word (x1 ||| y1) 0))).far (b' := w.heap.size) (j := 1) (by omega) (.int .u64 (word (x1 ||| y1) 1))).far (b' := w.heap.size) (j := 2) (by omega) (.int .u64 (word (x1 ||| y1) 2))).far (b' := w.heap.size) (j := 3) (by omega) (.int .u64 (word (x1 ||| y1) 3))).set 0 (.int .u64 (word (x1 ||| y1) 0))).set 1 (.int .u64 (word (x1 ||| y1) 1))).set 2 (.int .u64 (word (x1 ||| y1) 2))).set 3 (.int .u64 (word (x1 ||| y1) 3))).set 4 (.int .u64 (word (y2) 0))).set 5 (.int .u64 (word (y2) 1))).set 6 (.int .u64 (word (y2) 2))).set 7 (.int .u64 (word (y2) 3))).set 8 (.bool false))
  have N := (((((((((((((N.setCell (b := w.heap.size) (j := 0) (by omega) (by omega) (.int .u64 (word (x1 ||| y1) 0))).setCell (b := w.heap.size) (j := 1) (by omega) (by omega) (.int .u64 (word (x1 ||| y1) 1))).setCell (b := w.heap.size) (j := 2) (by omega) (by omega) (.int .u64 (word (x1 ||| y1) 2))).setCell (b := w.heap.size) (j := 3) (by omega) (by omega) (.int .u64 (word (x1 ||| y1) 3))).setCell (b := w.heap.size + 1 + 1) (j := 0) (by omega) (by omega) (.int .u64 (word (x1 ||| y1) 0))).setCell (b := w.heap.size + 1 + 1) (j := 1) (by omega) (by omega) (.int .u64 (word (x1 ||| y1) 1))).setCell (b := w.heap.size + 1 + 1) (j := 2) (by omega) (by omega) (.int .u64 (word (x1 ||| y1) 2))).setCell (b := w.heap.size + 1 + 1) (j := 3) (by omega) (by omega) (.int .u64 (word (x1 ||| y1) 3))).setCell (b := w.heap.size + 1 + 1) (j := 4) (by omega) (by omega) (.int .u64 (word (y2) 0))).setCell (b := w.heap.size + 1 + 1) (j := 5) (by omega) (by omega) (.int .u64 (word (y2) 1))).setCell (b := w.heap.size + 1 + 1) (j := 6) (by omega) (by omega) (.int .u64 (word (y2) 2))).setCell (b := w.heap.size + 1 + 1) (j := 7) (by omega) (by omega) (.int .u64 (word (y2) 3))).setCell (b := w.heap.size + 1 + 1) (j := 8) (by omega) (by omega) (.bool false))
  have B := (grown_set (grown_set (grown_set (grown_set (grown_set (grown_set (grown_set (grown_set (grown_set (grown_set (grown_set (grown_set (grown_set B (p := ⟨w.heap.size, 0, none⟩) (by dsimp only; omega) (.int .u64 (word (x1 ||| y1) 0))) (p := ⟨w.heap.size, 1, none⟩) (by dsimp only; omega) (.int .u64 (word (x1 ||| y1) 1))) (p := ⟨w.heap.size, 2, none⟩) (by dsimp only; omega) (.int .u64 (word (x1 ||| y1) 2))) (p := ⟨w.heap.size, 3, none⟩) (by dsimp only; omega) (.int .u64 (word (x1 ||| y1) 3))) (p := ⟨w.heap.size + 1 + 1, 0, none⟩) (by dsimp only; omega) (.int .u64 (word (x1 ||| y1) 0))) (p := ⟨w.heap.size + 1 + 1, 1, none⟩) (by dsimp only; omega) (.int .u64 (word (x1 ||| y1) 1))) (p := ⟨w.heap.size + 1 + 1, 2, none⟩) (by dsimp only; omega) (.int .u64 (word (x1 ||| y1) 2))) (p := ⟨w.heap.size + 1 + 1, 3, none⟩) (by dsimp only; omega) (.int .u64 (word (x1 ||| y1) 3))) (p := ⟨w.heap.size + 1 + 1, 4, none⟩) (by dsimp only; omega) (.int .u64 (word (y2) 0))) (p := ⟨w.heap.size + 1 + 1, 5, none⟩) (by dsimp only; omega) (.int .u64 (word (y2) 1))) (p := ⟨w.heap.size + 1 + 1, 6, none⟩) (by dsimp only; omega) (.int .u64 (word (y2) 2))) (p := ⟨w.heap.size + 1 + 1, 7, none⟩) (by dsimp only; omega) (.int .u64 (word (y2) 3))) (p := ⟨w.heap.size + 1 + 1, 8, none⟩) (by dsimp only; omega) (.bool false))
  have ax0 := Dx.cell 0 _ rfl
  have zx0 := Dx.free 0 _ rfl
  have ax1 := Dx.cell 1 _ rfl
  have zx1 := Dx.free 1 _ rfl
  have ax2 := Dx.cell 2 _ rfl
  have zx2 := Dx.free 2 _ rfl
  have ax3 := Dx.cell 3 _ rfl
  have zx3 := Dx.free 3 _ rfl
  have ax4 := Dx.cell 4 _ rfl
  have zx4 := Dx.free 4 _ rfl
  have ax5 := Dx.cell 5 _ rfl
  have zx5 := Dx.free 5 _ rfl
  have ax6 := Dx.cell 6 _ rfl
  have zx6 := Dx.free 6 _ rfl
  have ax7 := Dx.cell 7 _ rfl
  have zx7 := Dx.free 7 _ rfl
  have ax8 := Dx.cell 8 _ rfl
  have zx8 := Dx.free 8 _ rfl
  have nx := Dx.lt
  have ay0 := Dy.cell 0 _ rfl
  have zy0 := Dy.free 0 _ rfl
  have ay1 := Dy.cell 1 _ rfl
  have zy1 := Dy.free 1 _ rfl
  have ay2 := Dy.cell 2 _ rfl
  have zy2 := Dy.free 2 _ rfl
  have ay3 := Dy.cell 3 _ rfl
  have zy3 := Dy.free 3 _ rfl
  have ay4 := Dy.cell 4 _ rfl
  have zy4 := Dy.free 4 _ rfl
  have ay5 := Dy.cell 5 _ rfl
  have zy5 := Dy.free 5 _ rfl
  have ay6 := Dy.cell 6 _ rfl
  have zy6 := Dy.free 6 _ rfl
  have ay7 := Dy.cell 7 _ rfl
  have zy7 := Dy.free 7 _ rfl
  have ay8 := Dy.cell 8 _ rfl
  have zy8 := Dy.free 8 _ rfl
  have ny := Dy.lt
  have ar0 := Dr.cell 0 _ rfl
  have zr0 := Dr.free 0 _ rfl
  have ar1 := Dr.cell 1 _ rfl
  have zr1 := Dr.free 1 _ rfl
  have ar2 := Dr.cell 2 _ rfl
  have zr2 := Dr.free 2 _ rfl
  have ar3 := Dr.cell 3 _ rfl
  have zr3 := Dr.free 3 _ rfl
  have ar4 := Dr.cell 4 _ rfl
  have zr4 := Dr.free 4 _ rfl
  have ar5 := Dr.cell 5 _ rfl
  have zr5 := Dr.free 5 _ rfl
  have ar6 := Dr.cell 6 _ rfl
  have zr6 := Dr.free 6 _ rfl
  have ar7 := Dr.cell 7 _ rfl
  have zr7 := Dr.free 7 _ rfl
  have ar8 := Dr.cell 8 _ rfl
  have zr8 := Dr.free 8 _ rfl
  have nr := Dr.lt
  have nG := (N.lt _ rfl).2
  refine bodyPost_ret (by simp [results, Tryd.results31, go_sem, ar0, zr0, ar1, zr1, ar2, zr2, ar3, zr3, ar4, zr4, ar5, zr5, ar6, zr6, ar7, zr7, ar8, zr8, nr]; try rfl) rfl ?_
  exact ⟨rfl, N, B⟩
set_option maxHeartbeats 4000000 in
theorem chain_tt (base g cap : Nat) (n : Rx.Nt) (x1 x2 y1 y2 : Nat) (hl : ∀ i, i < 256 → x2.testBit i = true → i < n.length) (hn : 0 < n.length) (w : World) (N : NetR base w (rowV g n.length cap) n) :
    Calls Tryd.prog 31 #[rowV g n.length cap, pceV ⟨x1, x2, true⟩, pceV ⟨y1, y2, true⟩] w fun e w' => e = .returned (pceV (seqP ⟨x1, x2, true⟩ ⟨y1, y2, true⟩)) ∧ NetR base w' (rowV g n.length cap) (Rx.joinN x2 y1 n) ∧ w.grownBy w' (some g) := by
  have nG := (N.lt _ rfl).2
  have nT := N.tab.lt
  have hJ := fun W (h : NetR base W (rowV g n.length cap) n) => join_any base _ n x2 y1 hl hn W h
  have HJ := Lib.hid hJ
  have B : w.grownBy w (some g) := below_grown (Below.refl _ _)
  clear hl hJ
  unfold pceV
  dsimp only
  go_enter Tryd.func31, Tryd.ntmps31
  go_wp2_with fail
  have Dx : At ((((w).alloc (.cells #[.int .u64 (word (x1) 0), .int .u64 (word (x1) 1), .int .u64 (word (x1) 2), .int .u64 (word (x1) 3), .int .u64 (word (x2) 0), .int .u64 (word (x2) 1), .int .u64 (word (x2) 2), .int .u64 (word (x2) 3), .bool true] 53)).alloc (.cells #[.int .u64 (word (y1) 0), .int .u64 (word (y1) 1), .int .u64 (word (y1) 2), .int .u64 (word (y1) 3), .int .u64 (word (y2) 0), .int .u64 (word (y2) 1), .int .u64 (word (y2) 2), .int .u64 (word (y2) 3), .bool true] 53)).alloc (.cells #[.int .u64 0, .int .u64 0, .int .u64 0, .int .u64 0, .int .u64 0, .int .u64 0, .int .u64 0, .int .u64 0, .bool false] 53)) (w.heap.size) [.int .u64 (word (x1) 0), .int .u64 (word (x1) 1), .int .u64 (word (x1) 2), .int .u64 (word (x1) 3), .int .u64 (word (x2) 0), .int .u64 (word (x2) 1), .int .u64 (word (x2) 2), .int .u64 (word (x2) 3), .bool true] := by have h := (((At.new (w) #[.int .u64 (word (x1) 0), .int .u64 (word (x1) 1), .int .u64 (word (x1) 2), .int .u64 (word (x1) 3), .int .u64 (word (x2) 0), .int .u64 (word (x2) 1), .int .u64 (word (x2) 2), .int .u64 (word (x2) 3), .bool true] 53).alloc (.cells #[.int .u64 (word (y1) 0), .int .u64 (word (y1) 1), .int .u64 (word (y1) 2), .int .u64 (word (y1) 3), .int .u64 (word (y2) 0), .int .u64 (word (y2) 1), .int .u64 (word (y2) 2), .int .u64 (word (y2) 3), .bool true] 53)).alloc (.cells #[.int .u64 0, .int .u64 0, .int .u64 0, .int .u64 0, .int .u64 0, .int .u64 0, .int .u64 0, .int .u64 0, .bool false] 53)); simpa using h
  have Dy : At ((((w).alloc (.cells #[.int .u64 (word (x1) 0), .int .u64 (word (x1) 1), .int .u64 (word (x1) 2), .int .u64 (word (x1) 3), .int .u64 (word (x2) 0), .int .u64 (word (x2) 1), .int .u64 (word (x2) 2), .int .u64 (word (x2) 3), .bool true] 53)).alloc (.cells #[.int .u64 (word (y1) 0), .int .u64 (word (y1) 1), .int .u64 (word (y1) 2), .int .u64 (word (y1) 3), .int .u64 (word (y2) 0), .int .u64 (word (y2) 1), .int .u64 (word (y2) 2), .int .u64 (word (y2) 3), .bool true] 53)).alloc (.cells #[.int .u64 0, .int .u64 0, .int .u64 0, .int .u64 0, .int .u64 0, .int .u64 0, .int .u64 0, .int .u64 0, .bool false] 53)) (w.heap.size + 1) [.int .u64 (word (y1) 0), .int .u64 (word (y1) 1), .int .u64 (word (y1) 2), .int .u64 (word (y1) 3), .int .u64 (word (y2) 0), .int .u64 (word (y2) 1), .int .u64 (word (y2) 2), .int .u64 (word (y2) 3), .bool true] := by have h := ((At.new ((w).alloc (.cells #[.int .u64 (word (x1) 0), .int .u64 (word (x1) 1), .int .u64 (word (x1) 2), .int .u64 (word (x1) 3), .int .u64 (word (x2) 0), .int .u64 (word (x2) 1), .int .u64 (word (x2) 2), .int .u64 (word (x2) 3), .bool true] 53)) #[.int .u64 (word (y1) 0), .int .u64 (word (y1) 1), .int .u64 (word (y1) 2), .int .u64 (word (y1) 3), .int .u64 (word (y2) 0), .int .u64 (word (y2) 1), .int .u64 (word (y2) 2), .int .u64 (word (y2) 3), .bool true] 53).alloc (.cells #[.int .u64 0, .int .u64 0, .int .u64 0, .int .u64 0, .int .u64 0, .int .u64 0, .int .u64 0, .int .u64 0, .bool false] 53)); simpa using h
  have Dr : At ((((w).alloc (.cells #[.int .u64 (word (x1) 0), .int .u64 (word (x1) 1), .int .u64 (word (x1) 2), .int .u64 (word (x1) 3), .int .u64 (word (x2) 0), .int .u64 (word (x2) 1), .int .u64 (word (x2) 2), .int .u64 (word (x2) 3), .bool true] 53)).alloc (.cells #[.int .u64 (word (y1) 0), .int .u64 (word (y1) 1), .int .u64 (word (y1) 2), .int .u64 (word (y1) 3), .int .u64 (word (y2) 0), .int .u64 (word (y2) 1), .int .u64 (word (y2) 2), .int .u64 (word (y2) 3), .bool true] 53)).alloc (.cells #[.int .u64 0, .int .u64 0, .int .u64 0, .int .u64 0, .int .u64 0, .int .u64 0, .int .u64 0, .int .u64 0, .bool false] 53)) (w.heap.size + 1 + 1) [.int .u64 0, .int .u64 0, .int .u64 0, .int .u64 0, .int .u64 0, .int .u64 0, .int .u64 0, .int .u64 0, .bool false] := by have h := (At.new (((w).alloc (.cells #[.int .u64 (word (x1) 0), .int .u64 (word (x1) 1), .int .u64 (word (x1) 2), .int .u64 (word (x1) 3), .int .u64 (word (x2) 0), .int .u64 (word (x2) 1), .int .u64 (word (x2) 2), .int .u64 (word (x2) 3), .bool true] 53)).alloc (.cells #[.int .u64 (word (y1) 0), .int .u64 (word (y1) 1), .int .u64 (word (y1) 2), .int .u64 (word (y1) 3), .int .u64 (word (y2) 0), .int .u64 (word (y2) 1), .int .u64 (word (y2) 2), .int .u64 (word (y2) 3), .bool true] 53)) #[.int .u64 0, .int .u64 0, .int .u64 0, .int .u64 0, .int .u64 0, .int .u64 0, .int .u64 0, .int .u64 0, .bool false] 53); simpa using h
  have N := (((N.alloc (.cells #[.int .u64 (word (x1) 0), .int .u64 (word (x1) 1), .int .u64 (word (x1) 2), .int .u64 (word (x1) 3), .int .u64 (word (x2) 0), .int .u64 (word (x2) 1), .int .u64 (word (x2) 2), .int .u64 (word (x2) 3), .bool true] 53)).alloc (.cells #[.int .u64 (word (y1) 0), .int .u64 (word (y1) 1), .int .u64 (word (y1) 2), .int .u64 (word (y1) 3), .int .u64 (word (y2) 0), .int .u64 (word (y2) 1), .int .u64 (word (y2) 2), .int .u64 (word (y2) 3), .bool true] 53)).alloc (.cells #[.int .u64 0, .int .u64 0, .int .u64 0, .int .u64 0, .int .u64 0, .int .u64 0, .int .u64 0, .int .u64 0, .bool false] 53))
  have B := (grown_alloc (grown_alloc (grown_alloc B (.cells #[.int .u64 (word (x1) 0), .int .u64 (word (x1) 1), .int .u64 (word (x1) 2), .int .u64 (word (x1) 3), .int .u64 (word (x2) 0), .int .u64 (word (x2) 1), .int .u64 (word (x2) 2), .int .u64 (word (x2) 3), .bool true] 53)) (.cells #[.int .u64 (word (y1) 0), .int .u64 (word (y1) 1), .int .u64 (word (y1) 2), .int .u64 (word (y1) 3), .int .u64 (word (y2) 0), .int .u64 (word (y2) 1), .int .u64 (word (y2) 2), .int .u64 (word (y2) 3), .bool true] 53)) (.cells #[.int .u64 0, .int .u64 0, .int .u64 0, .int .u64 0, .int .u64 0, .int .u64 0, .int .u64 0, .int .u64 0, .bool false] 53))
  refine (HJ.out _ (by assumption)).mono ?_
  rintro e w1 ⟨⟨r, rfl⟩, hN, hg⟩
  replace hg : World.grownBy _ _ (some g) := hg
  have Dx := grown_at hg Dx (fun e2 => by have e3 := Option.some.inj e2; omega)
  have Dy := grown_at hg Dy (fun e2 => by have e3 := Option.some.inj e2; omega)
  have Dr := grown_at hg Dr (fun e2 => by have e3 := Option.some.inj e2; omega)
  have N := hN
  have B := grown_trans B hg
  clear hN hg
  have ax0 := Dx.cell 0 _ rfl
  have zx0 := Dx.free 0 _ rfl
  have ax1 := Dx.cell 1 _ rfl
  have zx1 := Dx.free 1 _ rfl
  have ax2 := Dx.cell 2 _ rfl
  have zx2 := Dx.free 2 _ rfl
  have ax3 := Dx.cell 3 _ rfl
  have zx3 := Dx.free 3 _ rfl
  have ax4 := Dx.cell 4 _ rfl
  have zx4 := Dx.free 4 _ rfl
  have ax5 := Dx.cell 5 _ rfl
  have zx5 := Dx.free 5 _ rfl
  have ax6 := Dx.cell 6 _ rfl
  have zx6 := Dx.free 6 _ rfl
  have ax7 := Dx.cell 7 _ rfl
  have zx7 := Dx.free 7 _ rfl
  have ax8 := Dx.cell 8 _ rfl
  have zx8 := Dx.free 8 _ rfl
  have nx := Dx.lt
  have ay0 := Dy.cell 0 _ rfl
  have zy0 := Dy.free 0 _ rfl
  have ay1 := Dy.cell 1 _ rfl
  have zy1 := Dy.free 1 _ rfl
  have ay2 := Dy.cell 2 _ rfl
  have zy2 := Dy.free 2 _ rfl
  have ay3 := Dy.cell 3 _ rfl
  have zy3 := Dy.free 3 _ rfl
  have ay4 := Dy.cell 4 _ rfl
  have zy4 := Dy.free 4 _ rfl
  have ay5 := Dy.cell 5 _ rfl
  have zy5 := Dy.free 5 _ rfl
  have ay6 := Dy.cell 6 _ rfl
  have zy6 := Dy.free 6 _ rfl
  have ay7 := Dy.cell 7 _ rfl
  have zy7 := Dy.free 7 _ rfl
  have ay8 := Dy.cell 8 _ rfl
  have zy8 := Dy.free 8 _ rfl
  have ny := Dy.lt
  have ar0 := Dr.cell 0 _ rfl
  have zr0 := Dr.free 0 _ rfl
  have ar1 := Dr.cell 1 _ rfl
  have zr1 := Dr.free 1 _ rfl
  have ar2 := Dr.cell 2 _ rfl
  have zr2 := Dr.free 2 _ rfl
  have ar3 := Dr.cell 3 _ rfl
  have zr3 := Dr.free 3 _ rfl
  have ar4 := Dr.cell 4 _ rfl
  have zr4 := Dr.free 4 _ rfl
  have ar5 := Dr.cell 5 _ rfl
  have zr5 := Dr.free 5 _ rfl
  have ar6 := Dr.cell 6 _ rfl
  have zr6 := Dr.free 6 _ rfl
  have ar7 := Dr.cell 7 _ rfl
  have zr7 := Dr.free 7 _ rfl
  have ar8 := Dr.cell 8 _ rfl
  have zr8 := Dr.free 8 _ rfl
  have nr := Dr.lt
  have nG := (N.lt _ rfl).2
  go_wp2_with fail
  clear ax0 zx0 ax1 zx1 ax2 zx2 ax3 zx3 ax4 zx4 ax5 zx5 ax6 zx6 ax7 zx7 ax8 zx8 nx ay0 zy0 ay1 zy1 ay2 zy2 ay3 zy3 ay4 zy4 ay5 zy5 ay6 zy6 ay7 zy7 ay8 zy8 ny ar0 zr0 ar1 zr1 ar2 zr2 ar3 zr3 ar4 zr4 ar5 zr5 ar6 zr6 ar7 zr7 ar8 zr8 nr nG
  refine (sor_any x1 y1 _).mono ?_
  rintro e w2 ⟨rfl, hb2⟩
  have Dx := Dx.below hb2
  have Dy := Dy.below hb2
  have Dr := Dr.below hb2
  have N := N.below hb2
  have B := grown_trans B (below_grown hb2)
  clear hb2
  unfold setV
  have ax0 := Dx.cell 0 _ rfl
  have zx0 := Dx.free 0 _ rfl
  have ax1 := Dx.cell 1 _ rfl
  have zx1 := Dx.free 1 _ rfl
  have ax2 := Dx.cell 2 _ rfl
  have zx2 := Dx.free 2 _ rfl
  have ax3 := Dx.cell 3 _ rfl
  have zx3 := Dx.free 3 _ rfl
  have ax4 := Dx.cell 4 _ rfl
  have zx4 := Dx.free 4 _ rfl
  have ax5 := Dx.cell 5 _ rfl
  have zx5 := Dx.free 5 _ rfl
  have ax6 := Dx.cell 6 _ rfl
  have zx6 := Dx.free 6 _ rfl
  have ax7 := Dx.cell 7 _ rfl
  have zx7 := Dx.free 7 _ rfl
  have ax8 := Dx.cell 8 _ rfl
  have zx8 := Dx.free 8 _ rfl
  have nx := Dx.lt
  have ay0 := Dy.cell 0 _ rfl
  have zy0 := Dy.free 0 _ rfl
  have ay1 := Dy.cell 1 _ rfl
  have zy1 := Dy.free 1 _ rfl
  have ay2 := Dy.cell 2 _ rfl
  have zy2 := Dy.free 2 _ rfl
  have ay3 := Dy.cell 3 _ rfl
  have zy3 := Dy.free 3 _ rfl
  have ay4 := Dy.cell 4 _ rfl
  have zy4 := Dy.free 4 _ rfl
  have ay5 := Dy.cell 5 _ rfl
  have zy5 := Dy.free 5 _ rfl
  have ay6 := Dy.cell 6 _ rfl
  have zy6 := Dy.free 6 _ rfl
  have ay7 := Dy.cell 7 _ rfl
  have zy7 := Dy.free 7 _ rfl
  have ay8 := Dy.cell 8 _ rfl
  have zy8 := Dy.free 8 _ rfl
  have ny := Dy.lt
  have ar0 := Dr.cell 0 _ rfl
  have zr0 := Dr.free 0 _ rfl
  have ar1 := Dr.cell 1 _ rfl
  have zr1 := Dr.free 1 _ rfl
  have ar2 := Dr.cell 2 _ rfl
  have zr2 := Dr.free 2 _ rfl
  have ar3 := Dr.cell 3 _ rfl
  have zr3 := Dr.free 3 _ rfl
  have ar4 := Dr.cell 4 _ rfl
  have zr4 := Dr.free 4 _ rfl
  have ar5 := Dr.cell 5 _ rfl
  have zr5 := Dr.free 5 _ rfl
  have ar6 := Dr.cell 6 _ rfl
  have zr6 := Dr.free 6 _ rfl
  have ar7 := Dr.cell 7 _ rfl
  have zr7 := Dr.free 7 _ rfl
  have ar8 := Dr.cell 8 _ rfl
  have zr8 := Dr.free 8 _ rfl
  have nr := Dr.lt
  have nG := (N.lt _ rfl).2
  go_wp2_with fail
  clear ax0 zx0 ax1 zx1 ax2 zx2 ax3 zx3 ax4 zx4 ax5 zx5 ax6 zx6 ax7 zx7 ax8 zx8 nx ay0 zy0 ay1 zy1 ay2 zy2 ay3 zy3 ay4 zy4 ay5 zy5 ay6 zy6 ay7 zy7 ay8 zy8 ny ar0 zr0 ar1 zr1 ar2 zr2 ar3 zr3 ar4 zr4 ar5 zr5 ar6 zr6 ar7 zr7 ar8 zr8 nr nG
  have Dx : At (((((w2).setCell ⟨w.heap.size, 0, none⟩ (.int .u64 (word (x1 ||| y1) 0))).setCell ⟨w.heap.size, 1, none⟩ (.int .u64 (word (x1 ||| y1) 1))).setCell ⟨w.heap.size, 2, none⟩ (.int .u64 (word (x1 ||| y1) 2))).setCell ⟨w.heap.size, 3, none⟩ (.int .u64 (word (x1 ||| y1) 3))) (w.heap.size) [.int .u64 (word (x1 ||| y1) 0), .int .u64 (word (x1 ||| y1) 1), .int .u64 (word (x1 ||| y1) 2), .int .u64 (word (x1 ||| y1) 3), .int .u64 (word (x2) 0), .int .u64 (word (x2) 1), .int .u64 (word (x2) 2), .int .u64 (word (x2) 3), .bool true] := ((((Dx.set 0 (.int .u64 (word (x1 ||| y1) 0))).set 1 (.int .u64 (word (x1 ||| y1) 1))).set 2 (.int .u64 (word (x1 ||| y1) 2))).set 3 (.int .u64 (word (x1 ||| y1) 3)))
  have Dy : At (((((w2).setCell ⟨w.heap.size, 0, none⟩ (.int .u64 (word (x1 ||| y1) 0))).setCell ⟨w.heap.size, 1, none⟩ (.int .u64 (word (x1 ||| y1) 1))).setCell ⟨w.heap.size, 2, none⟩ (.int .u64 (word (x1 ||| y1) 2))).setCell ⟨w.heap.size, 3, none⟩ (.int .u64 (word (x1 ||| y1) 3))) (w.heap.size + 1) [.int .u64 (word (y1) 0), .int .u64 (word (y1) 1), .int .u64 (word (y1) 2), .int .u64 (word (y1) 3), .int .u64 (word (y2) 0), .int .u64 (word (y2) 1), .int .u64 (word (y2) 2), .int .u64 (word (y2) 3), .bool true] := ((((Dy.far (b' := w.heap.size) (j := 0) (by omega) (.int .u64 (word (x1 ||| y1) 0))).far (b' := w.heap.size) (j := 1) (by omega) (.int .u64 (word (x1 ||| y1) 1))).far (b' := w.heap.size) (j := 2) (by omega) (.int .u64 (word (x1 ||| y1) 2))).far (b' := w.heap.size) (j := 3) (by omega) (.int .u64 (word (x1 ||| y1) 3)))
  have Dr : At (((((w2).setCell ⟨w.heap.size, 0, none⟩ (.int .u64 (word (x1 ||| y1) 0))).setCell ⟨w.heap.size, 1, none⟩ (.int .u64 (word (x1 ||| y1) 1))).setCell ⟨w.heap.size, 2, none⟩ (.int .u64 (word (x1 ||| y1) 2))).setCell ⟨w.heap.size, 3, none⟩ (.int .u64 (word (x1 ||| y1) 3))) (w.heap.size + 1 + 1) [.int .u64 0, .int .u64 0, .int .u64 0, .int .u64 0, .int .u64 0, .int .u64 0, .int .u64 0, .int .u64 0, .bool false] := ((((Dr.far (b' := w.heap.size) (j := 0) (by omega) (.int .u64 (word (x1 ||| y1) 0))).far (b' := w.heap.size) (j := 1) (by omega) (.int .u64 (word (x1 ||| y1) 1))).far (b' := w.heap.size) (j := 2) (by omega) (.int .u64 (word (x1 ||| y1) 2))).far (b' := w.heap.size) (j := 3) (by omega) (.int .u64 (word (x1 ||| y1) 3)))
  have N := ((((N.setCell (b := w.heap.size) (j := 0) (by omega) (by omega) (.int .u64 (word (x1 ||| y1) 0))).setCell (b := w.heap.size) (j := 1) (by omega) (by omega) (.int .u64 (word (x1 ||| y1) 1))).setCell (b := w.heap.size) (j := 2) (by omega) (by omega) (.int .u64 (word (x1 ||| y1) 2))).setCell (b := w.heap.size) (j := 3) (by omega) (by omega) (.int .u64 (word (x1 ||| y1) 3)))
  have B := (grown_set (grown_set (grown_set (grown_set B (p := ⟨w.heap.size, 0, none⟩) (by dsimp only; omega) (.int .u64 (word (x1 ||| y1) 0))) (p := ⟨w.heap.size, 1, none⟩) (by dsimp only; omega) (.int .u64 (word (x1 ||| y1) 1))) (p := ⟨w.heap.size, 2, none⟩) (by dsimp only; omega) (.int .u64 (word (x1 ||| y1) 2))) (p := ⟨w.heap.size, 3, none⟩) (by dsimp only; omega) (.int .u64 (word (x1 ||| y1) 3)))
  refine (sor_any y2 x2 _).mono ?_
  rintro e w3 ⟨rfl, hb3⟩
  have Dx := Dx.below hb3
  have Dy := Dy.below hb3
  have Dr := Dr.below hb3
  have N := N.below hb3
  have B := grown_trans B (below_grown hb3)
  clear hb3
  unfold setV
  have ax0 := Dx.cell 0 _ rfl
  have zx0 := Dx.free 0 _ rfl
  have ax1 := Dx.cell 1 _ rfl
  have zx1 := Dx.free 1 _ rfl
  have ax2 := Dx.cell 2 _ rfl
  have zx2 := Dx.free 2 _ rfl
  have ax3 := Dx.cell 3 _ rfl
  have zx3 := Dx.free 3 _ rfl
  have ax4 := Dx.cell 4 _ rfl
  have zx4 := Dx.free 4 _ rfl
  have ax5 := Dx.cell 5 _ rfl
  have zx5 := Dx.free 5 _ rfl
  have ax6 := Dx.cell 6 _ rfl
  have zx6 := Dx.free 6 _ rfl
  have ax7 := Dx.cell 7 _ rfl
  have zx7 := Dx.free 7 _ rfl
  have ax8 := Dx.cell 8 _ rfl
  have zx8 := Dx.free 8 _ rfl
  have nx := Dx.lt
  have ay0 := Dy.cell 0 _ rfl
  have zy0 := Dy.free 0 _ rfl
  have ay1 := Dy.cell 1 _ rfl
  have zy1 := Dy.free 1 _ rfl
  have ay2 := Dy.cell 2 _ rfl
  have zy2 := Dy.free 2 _ rfl
  have ay3 := Dy.cell 3 _ rfl
  have zy3 := Dy.free 3 _ rfl
  have ay4 := Dy.cell 4 _ rfl
  have zy4 := Dy.free 4 _ rfl
  have ay5 := Dy.cell 5 _ rfl
  have zy5 := Dy.free 5 _ rfl
  have ay6 := Dy.cell 6 _ rfl
  have zy6 := Dy.free 6 _ rfl
  have ay7 := Dy.cell 7 _ rfl
  have zy7 := Dy.free 7 _ rfl
  have ay8 := Dy.cell 8 _ rfl
  have zy8 := Dy.free 8 _ rfl
  have ny := Dy.lt
  have ar0 := Dr.cell 0 _ rfl
  have zr0 := Dr.free 0 _ rfl
  have ar1 := Dr.cell 1 _ rfl
  have zr1 := Dr.free 1 _ rfl
  have ar2 := Dr.cell 2 _ rfl
  have zr2 := Dr.free 2 _ rfl
  have ar3 := Dr.cell 3 _ rfl
  have zr3 := Dr.free 3 _ rfl
  have ar4 := Dr.cell 4 _ rfl
  have zr4 := Dr.free 4 _ rfl
  have ar5 := Dr.cell 5 _ rfl
  have zr5 := Dr.free 5 _ rfl
  have ar6 := Dr.cell 6 _ rfl
  have zr6 := Dr.free 6 _ rfl
  have ar7 := Dr.cell 7 _ rfl
  have zr7 := Dr.free 7 _ rfl
  have ar8 := Dr.cell 8 _ rfl
  have zr8 := Dr.free 8 _ rfl
  have nr := Dr.lt
  have nG := (N.lt _ rfl).2
  go_wp2_with fail
  clear ax0 zx0 ax1 zx1 ax2 zx2 ax3 zx3 ax4 zx4 ax5 zx5 ax6 zx6 ax7 zx7 ax8 zx8 nx ay0 zy0 ay1 zy1 ay2 zy2 ay3 zy3 ay4 zy4 ay5 zy5 ay6 zy6 ay7 zy7 ay8 zy8 ny ar0 zr0 ar1 zr1 ar2 zr2 ar3 zr3 ar4 zr4 ar5 zr5 ar6 zr6 ar7 zr7 ar8 zr8 nr nG
  have Dx : At ((((((((((((((w3).setCell ⟨w.heap.size + 1, 4, none⟩ (.int .u64 (word (y2 ||| x2) 0))).setCell ⟨w.heap.size + 1, 5, none⟩ (.int .u64 (word (y2 ||| x2) 1))).setCell ⟨w.heap.size + 1, 6, none⟩ (.int .u64 (word (y2 ||| x2) 2))).setCell ⟨w.heap.size + 1, 7, none⟩ (.int .u64 (word (y2 ||| x2) 3))).setCell ⟨w.heap.size + 1 + 1, 0, none⟩ (.int .u64 (word (x1 ||| y1) 0))).setCell ⟨w.heap.size + 1 + 1, 1, none⟩ (.int .u64 (word (x1 ||| y1) 1))).setCell ⟨w.heap.size + 1 + 1, 2, none⟩ (.int .u64 (word (x1 ||| y1) 2))).setCell ⟨w.heap.size + 1 + 1, 3, none⟩ (.int .u64 (word (x1 ||| y1) 3))).setCell ⟨w.heap.size + 1 + 1, 4, none⟩ (.int .u64 (word (y2 ||| x2) 0))).setCell ⟨w.heap.size + 1 + 1, 5, none⟩ (.int .u64 (word (y2 ||| x2) 1))).setCell ⟨w.heap.size + 1 + 1, 6, none⟩ (.int .u64 (word (y2 ||| x2) 2))).setCell ⟨w.heap.size + 1 + 1, 7, none⟩ (.int .u64 (word (y2 ||| x2) 3))).setCell ⟨w.heap.size + 1 + 1, 8, none⟩ (.bool true)) (w.heap.size) [.int .u64 (word (x1 ||| y1) 0), .int .u64 (word (x1 ||| y1) 1), .int .u64 (word (x1 ||| y1) 2), .int .u64 (word (x1 ||| y1) 3), .int .u64 (word (x2) 0), .int .u64 (word (x2) 1), .int .u64 (word (x2) 2), .int .u64 (word (x2) 3), .bool true] := (((((((((((((Dx.far (b' := w.heap.size + 1) (j := 4) (by omega) (.int .u64 (word (y2 ||| x2) 0))).far (b' := w.heap.size + 1) (j := 5) (by omega) (.int .u64 (word (y2 ||| x2) 1))).far (b' := w.heap.size + 1) (j := 6) (by omega) (.int .u64 (word (y2 ||| x2) 2))).far (b' := w.heap.size + 1) (j := 7) (by omega) (.int .u64 (word (y2 ||| x2) 3))).far (b' := w.heap.size + 1 + 1) (j := 0) (by omega) (.int .u64 (word (x1 ||| y1) 0))).far (b' := w.heap.size + 1 + 1) (j := 1) (by omega) (.int .u64 (word (x1 ||| y1) 1))).far (b' := w.heap.size + 1 + 1) (j := 2) (by omega) (.int .u64 (word (x1 ||| y1) 2))).far (b' := w.heap.size + 1 + 1) (j := 3) (by omega) (.int .u64 (word (x1 ||| y1) 3))).far (b' := w.heap.size + 1 + 1) (j := 4) (by omega) (.int .u64 (word (y2 ||| x2) 0))).far (b' := w.heap.size + 1 + 1) (j := 5) (by omega) (.int .u64 (word (y2 ||| x2) 1))).far (b' := w.heap.size + 1 + 1) (j := 6) (by omega) (.int .u64 (word (y2 ||| x2) 2))).far (b' := w.heap.size + 1 + 1) (j := 7) (by omega) (.int .u64 (word (y2 ||| x2) 3))).far (b' := w.heap.size + 1 + 1) (j := 8) (by omega) (.bool true))
  have Dy : At ((((((((((((((w3).setCell ⟨w.heap.size + 1, 4, none⟩ (.int .u64 (word (y2 ||| x2) 0))).setCell ⟨w.heap.size + 1, 5, none⟩ (.int .u64 (word (y2 ||| x2) 1))).setCell ⟨w.heap.size + 1, 6, none⟩ (.int .u64 (word (y2 ||| x2) 2))).setCell ⟨w.heap.size + 1, 7, none⟩ (.int .u64 (word (y2 ||| x2) 3))).setCell ⟨w.heap.size + 1 + 1, 0, none⟩ (.int .u64 (word (x1 ||| y1) 0))).setCell ⟨w.heap.size + 1 + 1, 1, none⟩ (.int .u64 (word (x1 ||| y1) 1))).setCell ⟨w.heap.size + 1 + 1, 2, none⟩ (.int .u64 (word (x1 ||| y1) 2))).setCell ⟨w.heap.size + 1 + 1, 3, none⟩ (.int .u64 (word (x1 ||| y1) 3))).setCell ⟨w.heap.size + 1 + 1, 4, none⟩ (.int .u64 (word (y2 ||| x2) 0))).setCell ⟨w.heap.size + 1 + 1, 5, none⟩ (.int .u64 (word (y2 ||| x2) 1))).setCell ⟨w.heap.size + 1 + 1, 6, none⟩ (.int .u64 (word (y2 ||| x2) 2))).setCell ⟨w.heap.size + 1 + 1, 7, none⟩ (.int .u64 (word (y2 ||| x2) 3))).setCell ⟨w.heap.size + 1 + 1, 8, none⟩ (.bool true)) (w.heap.size + 1) [.int .u64 (word (y1) 0), .int .u64 (word (y1) 1), .int .u64 (word (y1) 2), .int .u64 (word (y1) 3), .int .u64 (word (y2 ||| x2) 0), .int .u64 (word (y2 ||| x2) 1), .int .u64 (word (y2 ||| x2) 2), .int .u64 (word (y2 ||| x2) 3), .bool true] := (((((((((((((Dy.set 4 (.int .u64 (word (y2 ||| x2) 0))).set 5 (.int .u64 (word (y2 ||| x2) 1))).set 6 (.int .u64 (word (y2 ||| x2) 2))).set 7 (.int .u64 (word (y2 ||| x2) 3))).far (b' := w.heap.size + 1 + 1) (j := 0) (by omega) (.int .u64 (word (x1 ||| y1) 0))).far (b' := w.heap.size + 1 + 1) (j := 1) (by omega) (.int .u64 (word (x1 ||| y1) 1))).far (b' := w.heap.size + 1 + 1) (j := 2) (by omega) (.int .u64 (word (x1 ||| y1) 2))).far (b' := w.heap.size + 1 + 1) (j := 3) (by omega) (.int .u64 (word (x1 ||| y1) 3))).far (b' := w.heap.size + 1 + 1) (j := 4) (by omega) (.int .u64 (word (y2 ||| x2) 0))).far (b' := w.heap.size + 1 + 1) (j := 5) (by omega) (.int .u64 (word (y2 ||| x2) 1))).far (b' := w.heap.size + 1 + 1) (j := 6) (by omega) (.int .u64 (word (y2 ||| x2) 2))).far (b' := w.heap.size + 1 + 1) (j := 7) (by omega) (.int .u64 (word (y2 ||| x2) 3))).far (b' := w.heap.size + 1 + 1) (j := 8) (by omega) (.bool true))
  have Dr : At ((((((((((((((w3).setCell ⟨w.heap.size + 1, 4, none⟩ (.int .u64 (word (y2 ||| x2) 0))).setCell ⟨w.heap.size + 1, 5, none⟩ (.int .u64 (word (y2 ||| x2) 1))).setCell ⟨w.heap.size + 1, 6, none⟩ (.int .u64 (word (y2 ||| x2) 2))).setCell ⟨w.heap.size + 1, 7, none⟩ (.int .u64 (word (y2 ||| x2) 3))).setCell ⟨w.heap.size + 1 + 1, 0, none⟩ (.int .u64 (word (x1 ||| y1) 0))).setCell ⟨w.heap.size + 1 + 1, 1, none⟩ (.int .u64 (word (x1 ||| y1) 1))).setCell ⟨w.heap.size + 1 + 1, 2, none⟩ (.int .u64 (word (x1 ||| y1) 2))).setCell ⟨w.heap.size + 1 + 1, 3, none⟩ (.int .u64 (word (x1 ||| y1) 3))).setCell ⟨w.heap.size + 1 + 1, 4, none⟩ (.int .u64 (word (y2 ||| x2) 0))).setCell ⟨w.heap.size + 1 + 1, 5, none⟩ (.int .u64 (word (y2 ||| x2) 1))).setCell ⟨w.heap.size + 1 + 1, 6, none⟩ (.int .u64 (word (y2 ||| x2) 2))).setCell ⟨w.heap.size + 1 + 1, 7, none⟩ (.int .u64 (word (y2 ||| x2) 3))).setCell ⟨w.heap.size + 1 + 1, 8, none⟩ (.bool true)) (w.heap.size + 1 + 1) [.int .u64 (word (x1 ||| y1) 0), .int .u64 (word (x1 ||| y1) 1), .int .u64 (word (x1 ||| y1) 2), .int .u64 (word (x1 ||| y1) 3), .int .u64 (word (y2 ||| x2) 0), .int .u64 (word (y2 ||| x2) 1), .int .u64 (word (y2 ||| x2) 2), .int .u64 (word (y2 ||| x2) 3), .bool true] := (((((((((((((Dr.far (b' := w.heap.size + 1) (j := 4) (by omega) (.int .u64 (word (y2 ||| x2) 0))).far (b' := w.heap.size + 1) (j := 5) (by omega) (.int .u64 (word (y2 ||| x2) 1))).far (b' := w.heap.size + 1) (j := 6) (by omega) (.int .u64 (word (y2 ||| x2) 2))).far (b' := w.heap.size + 1) (j := 7) (by omega) (.int .u64 (word (y2 ||| x2) 3))).set 0 (.int .u64 (word (x1 ||| y1) 0))).set 1 (.int .u64 (word (x1 ||| y1) 1))).set 2 (.int .u64 (word (x1 ||| y1) 2))).set 3 (.int .u64 (word (x1 ||| y1) 3))).set 4 (.int .u64 (word (y2 ||| x2) 0))).set 5 (.int .u64 (word (y2 ||| x2) 1))).set 6 (.int .u64 (word (y2 ||| x2) 2))).set 7 (.int .u64 (word (y2 ||| x2) 3))).set 8 (.bool true))
  have N := (((((((((((((N.setCell (b := w.heap.size + 1) (j := 4) (by omega) (by omega) (.int .u64 (word (y2 ||| x2) 0))).setCell (b := w.heap.size + 1) (j := 5) (by omega) (by omega) (.int .u64 (word (y2 ||| x2) 1))).setCell (b := w.heap.size + 1) (j := 6) (by omega) (by omega) (.int .u64 (word (y2 ||| x2) 2))).setCell (b := w.heap.size + 1) (j := 7) (by omega) (by omega) (.int .u64 (word (y2 ||| x2) 3))).setCell (b := w.heap.size + 1 + 1) (j := 0) (by omega) (by omega) (.int .u64 (word (x1 ||| y1) 0))).setCell (b := w.heap.size + 1 + 1) (j := 1) (by omega) (by omega) (.int .u64 (word (x1 ||| y1) 1))).setCell (b := w.heap.size + 1 + 1) (j := 2) (by omega) (by omega) (.int .u64 (word (x1 ||| y1) 2))).setCell (b := w.heap.size + 1 + 1) (j := 3) (by omega) (by omega) (.int .u64 (word (x1 ||| y1) 3))).setCell (b := w.heap.size + 1 + 1) (j := 4) (by omega) (by omega) (.int .u64 (word (y2 ||| x2) 0))).setCell (b := w.heap.size + 1 + 1) (j := 5) (by omega) (by omega) (.int .u64 (word (y2 ||| x2) 1))).setCell (b := w.heap.size + 1 + 1) (j := 6) (by omega) (by omega) (.int .u64 (word (y2 ||| x2) 2))).setCell (b := w.heap.size + 1 + 1) (j := 7) (by omega) (by omega) (.int .u64 (word (y2 ||| x2) 3))).setCell (b := w.heap.size + 1 + 1) (j := 8) (by omega) (by omega) (.bool true))
  have B := (grown_set (grown_set (grown_set (grown_set (grown_set (grown_set (grown_set (grown_set (grown_set (grown_set (grown_set (grown_set (grown_set B (p := ⟨w.heap.size + 1, 4, none⟩) (by dsimp only; omega) (.int .u64 (word (y2 ||| x2) 0))) (p := ⟨w.heap.size + 1, 5, none⟩) (by dsimp only; omega) (.int .u64 (word (y2 ||| x2) 1))) (p := ⟨w.heap.size + 1, 6, none⟩) (by dsimp only; omega) (.int .u64 (word (y2 ||| x2) 2))) (p := ⟨w.heap.size + 1, 7, none⟩) (by dsimp only; omega) (.int .u64 (word (y2 ||| x2) 3))) (p := ⟨w.heap.size + 1 + 1, 0, none⟩) (by dsimp only; omega) (.int .u64 (word (x1 ||| y1) 0))) (p := ⟨w.heap.size + 1 + 1, 1, none⟩) (by dsimp only; omega) (.int .u64 (word (x1 ||| y1) 1))) (p := ⟨w.heap.size + 1 + 1, 2, none⟩) (by dsimp only; omega) (.int .u64 (word (x1 ||| y1) 2))) (p := ⟨w.heap.size + 1 + 1, 3, none⟩) (by dsimp only; omega) (.int .u64 (word (x1 ||| y1) 3))) (p := ⟨w.heap.size + 1 + 1, 4, none⟩) (by dsimp only; omega) (.int .u64 (word (y2 ||| x2) 0))) (p := ⟨w.heap.size + 1 + 1, 5, none⟩) (by dsimp only; omega) (.int .u64 (word (y2 ||| x2) 1))) (p := ⟨w.heap.size + 1 + 1, 6, none⟩) (by dsimp only; omega) (.int .u64 (word (y2 ||| x2) 2))) (p := ⟨w.heap.size + 1 + 1, 7, none⟩) (by dsimp only; omega) (.int .u64 (word (y2 ||| x2) 3))) (p := ⟨w.heap.size + 1 + 1, 8, none⟩) (by dsimp only; omega) (.bool true))
  have ax0 := Dx.cell 0 _ rfl
  have zx0 := Dx.free 0 _ rfl
  have ax1 := Dx.cell 1 _ rfl
  have zx1 := Dx.free 1 _ rfl
  have ax2 := Dx.cell 2 _ rfl
  have zx2 := Dx.free 2 _ rfl
  have ax3 := Dx.cell 3 _ rfl
  have zx3 := Dx.free 3 _ rfl
  have ax4 := Dx.cell 4 _ rfl
  have zx4 := Dx.free 4 _ rfl
  have ax5 := Dx.cell 5 _ rfl
  have zx5 := Dx.free 5 _ rfl
  have ax6 := Dx.cell 6 _ rfl
  have zx6 := Dx.free 6 _ rfl
  have ax7 := Dx.cell 7 _ rfl
  have zx7 := Dx.free 7 _ rfl
  have ax8 := Dx.cell 8 _ rfl
  have zx8 := Dx.free 8 _ rfl
  have nx := Dx.lt
  have ay0 := Dy.cell 0 _ rfl
  have zy0 := Dy.free 0 _ rfl
  have ay1 := Dy.cell 1 _ rfl
  have zy1 := Dy.free 1 _ rfl
  have ay2 := Dy.cell 2 _ rfl
  have zy2 := Dy.free 2 _ rfl
  have ay3 := Dy.cell 3 _ rfl
  have zy3 := Dy.free 3 _ rfl
  have ay4 := Dy.cell 4 _ rfl
  have zy4 := Dy.free 4 _ rfl
  have ay5 := Dy.cell 5 _ rfl
  have zy5 := Dy.free 5 _ rfl
  have ay6 := Dy.cell 6 _ rfl
  have zy6 := Dy.free 6 _ rfl
  have ay7 := Dy.cell 7 _ rfl
  have zy7 := Dy.free 7 _ rfl
  have ay8 := Dy.cell 8 _ rfl
  have zy8 := Dy.free 8 _ rfl
  have ny := Dy.lt
  have ar0 := Dr.cell 0 _ rfl
  have zr0 := Dr.free 0 _ rfl
  have ar1 := Dr.cell 1 _ rfl
  have zr1 := Dr.free 1 _ rfl
  have ar2 := Dr.cell 2 _ rfl
  have zr2 := Dr.free 2 _ rfl
  have ar3 := Dr.cell 3 _ rfl
  have zr3 := Dr.free 3 _ rfl
  have ar4 := Dr.cell 4 _ rfl
  have zr4 := Dr.free 4 _ rfl
  have ar5 := Dr.cell 5 _ rfl
  have zr5 := Dr.free 5 _ rfl
  have ar6 := Dr.cell 6 _ rfl
  have zr6 := Dr.free 6 _ rfl
  have ar7 := Dr.cell 7 _ rfl
  have zr7 := Dr.free 7 _ rfl
  have ar8 := Dr.cell 8 _ rfl
  have zr8 := Dr.free 8 _ rfl
  have nr := Dr.lt
  have nG := (N.lt _ rfl).2
  refine bodyPost_ret (by simp [results, Tryd.results31, go_sem, ar0, zr0, ar1, zr1, ar2, zr2, ar3, zr3, ar4, zr4, ar5, zr5, ar6, zr6, ar7, zr7, ar8, zr8, nr]; try rfl) rfl ?_
  exact ⟨rfl, N, B⟩
theorem chain_any (base g cap : Nat) (n : Rx.Nt) (x y : Rx.Pce) (hl : ∀ i, i < 256 → x.last.testBit i = true → i < n.length) (hn : 0 < n.length) (w : World) (N : NetR base w (rowV g n.length cap) n) :
    Calls Tryd.prog 31 #[rowV g n.length cap, pceV x, pceV y] w fun e w' => e = .returned (pceV (seqP x y)) ∧ NetR base w' (rowV g n.length cap) (Rx.joinN x.last y.first n) ∧ w.grownBy w' (some g) := by
  obtain ⟨x1, x2, xn⟩ := x
  obtain ⟨y1, y2, yn⟩ := y
  cases xn <;> cases yn
  · exact chain_ff base g cap n x1 x2 y1 y2 hl hn w N
  · exact chain_ft base g cap n x1 x2 y1 y2 hl hn w N
  · exact chain_tf base g cap n x1 x2 y1 y2 hl hn w N
  · exact chain_tt base g cap n x1 x2 y1 y2 hl hn w N
set_option maxHeartbeats 4000000 in
theorem again_any (base g cap : Nat) (n : Rx.Nt) (x : Rx.Pce) (hl : ∀ i, i < 256 → x.last.testBit i = true → i < n.length) (hn : 0 < n.length) (w : World) (N : NetR base w (rowV g n.length cap) n) :
    Calls Tryd.prog 56 #[rowV g n.length cap, pceV x] w fun e w' => e = .returned (pceV x) ∧ NetR base w' (rowV g n.length cap) (Rx.joinN x.last x.first n) ∧ w.grownBy w' (some g) := by
  have nG := (N.lt _ rfl).2
  have nT := N.tab.lt
  have hJ := fun W (h : NetR base W (rowV g n.length cap) n) => join_any base _ n x.last x.first hl hn W h
  have HJ := Lib.hid hJ
  have B : w.grownBy w (some g) := below_grown (Below.refl _ _)
  clear hl hJ
  unfold pceV
  go_enter Tryd.func56, Tryd.ntmps56
  go_wp2_with fail
  have Dx : At (((w).alloc (.cells #[.int .u64 (word (x.first) 0), .int .u64 (word (x.first) 1), .int .u64 (word (x.first) 2), .int .u64 (word (x.first) 3), .int .u64 (word (x.last) 0), .int .u64 (word (x.last) 1), .int .u64 (word (x.last) 2), .int .u64 (word (x.last) 3), .bool x.none] 53)).alloc (.cells #[.int .u64 0, .int .u64 0, .int .u64 0, .int .u64 0, .int .u64 0, .int .u64 0, .int .u64 0, .int .u64 0, .bool false] 53)) (w.heap.size) [.int .u64 (word (x.first) 0), .int .u64 (word (x.first) 1), .int .u64 (word (x.first) 2), .int .u64 (word (x.first) 3), .int .u64 (word (x.last) 0), .int .u64 (word (x.last) 1), .int .u64 (word (x.last) 2), .int .u64 (word (x.last) 3), .bool x.none] := by have h := ((At.new (w) #[.int .u64 (word (x.first) 0), .int .u64 (word (x.first) 1), .int .u64 (word (x.first) 2), .int .u64 (word (x.first) 3), .int .u64 (word (x.last) 0), .int .u64 (word (x.last) 1), .int .u64 (word (x.last) 2), .int .u64 (word (x.last) 3), .bool x.none] 53).alloc (.cells #[.int .u64 0, .int .u64 0, .int .u64 0, .int .u64 0, .int .u64 0, .int .u64 0, .int .u64 0, .int .u64 0, .bool false] 53)); simpa using h
  have Dr : At (((w).alloc (.cells #[.int .u64 (word (x.first) 0), .int .u64 (word (x.first) 1), .int .u64 (word (x.first) 2), .int .u64 (word (x.first) 3), .int .u64 (word (x.last) 0), .int .u64 (word (x.last) 1), .int .u64 (word (x.last) 2), .int .u64 (word (x.last) 3), .bool x.none] 53)).alloc (.cells #[.int .u64 0, .int .u64 0, .int .u64 0, .int .u64 0, .int .u64 0, .int .u64 0, .int .u64 0, .int .u64 0, .bool false] 53)) (w.heap.size + 1) [.int .u64 0, .int .u64 0, .int .u64 0, .int .u64 0, .int .u64 0, .int .u64 0, .int .u64 0, .int .u64 0, .bool false] := by have h := (At.new ((w).alloc (.cells #[.int .u64 (word (x.first) 0), .int .u64 (word (x.first) 1), .int .u64 (word (x.first) 2), .int .u64 (word (x.first) 3), .int .u64 (word (x.last) 0), .int .u64 (word (x.last) 1), .int .u64 (word (x.last) 2), .int .u64 (word (x.last) 3), .bool x.none] 53)) #[.int .u64 0, .int .u64 0, .int .u64 0, .int .u64 0, .int .u64 0, .int .u64 0, .int .u64 0, .int .u64 0, .bool false] 53); simpa using h
  have N := ((N.alloc (.cells #[.int .u64 (word (x.first) 0), .int .u64 (word (x.first) 1), .int .u64 (word (x.first) 2), .int .u64 (word (x.first) 3), .int .u64 (word (x.last) 0), .int .u64 (word (x.last) 1), .int .u64 (word (x.last) 2), .int .u64 (word (x.last) 3), .bool x.none] 53)).alloc (.cells #[.int .u64 0, .int .u64 0, .int .u64 0, .int .u64 0, .int .u64 0, .int .u64 0, .int .u64 0, .int .u64 0, .bool false] 53))
  have B := (grown_alloc (grown_alloc B (.cells #[.int .u64 (word (x.first) 0), .int .u64 (word (x.first) 1), .int .u64 (word (x.first) 2), .int .u64 (word (x.first) 3), .int .u64 (word (x.last) 0), .int .u64 (word (x.last) 1), .int .u64 (word (x.last) 2), .int .u64 (word (x.last) 3), .bool x.none] 53)) (.cells #[.int .u64 0, .int .u64 0, .int .u64 0, .int .u64 0, .int .u64 0, .int .u64 0, .int .u64 0, .int .u64 0, .bool false] 53))
  refine (HJ.out _ (by assumption)).mono ?_
  rintro e w1 ⟨⟨r, rfl⟩, hN, hg⟩
  replace hg : World.grownBy _ _ (some g) := hg
  have Dx := grown_at hg Dx (fun e2 => by have e3 := Option.some.inj e2; omega)
  have Dr := grown_at hg Dr (fun e2 => by have e3 := Option.some.inj e2; omega)
  have N := hN
  have B := grown_trans B hg
  clear hN hg
  have ax0 := Dx.cell 0 _ rfl
  have zx0 := Dx.free 0 _ rfl
  have ax1 := Dx.cell 1 _ rfl
  have zx1 := Dx.free 1 _ rfl
  have ax2 := Dx.cell 2 _ rfl
  have zx2 := Dx.free 2 _ rfl
  have ax3 := Dx.cell 3 _ rfl
  have zx3 := Dx.free 3 _ rfl
  have ax4 := Dx.cell 4 _ rfl
  have zx4 := Dx.free 4 _ rfl
  have ax5 := Dx.cell 5 _ rfl
  have zx5 := Dx.free 5 _ rfl
  have ax6 := Dx.cell 6 _ rfl
  have zx6 := Dx.free 6 _ rfl
  have ax7 := Dx.cell 7 _ rfl
  have zx7 := Dx.free 7 _ rfl
  have ax8 := Dx.cell 8 _ rfl
  have zx8 := Dx.free 8 _ rfl
  have nx := Dx.lt
  have ar0 := Dr.cell 0 _ rfl
  have zr0 := Dr.free 0 _ rfl
  have ar1 := Dr.cell 1 _ rfl
  have zr1 := Dr.free 1 _ rfl
  have ar2 := Dr.cell 2 _ rfl
  have zr2 := Dr.free 2 _ rfl
  have ar3 := Dr.cell 3 _ rfl
  have zr3 := Dr.free 3 _ rfl
  have ar4 := Dr.cell 4 _ rfl
  have zr4 := Dr.free 4 _ rfl
  have ar5 := Dr.cell 5 _ rfl
  have zr5 := Dr.free 5 _ rfl
  have ar6 := Dr.cell 6 _ rfl
  have zr6 := Dr.free 6 _ rfl
  have ar7 := Dr.cell 7 _ rfl
  have zr7 := Dr.free 7 _ rfl
  have ar8 := Dr.cell 8 _ rfl
  have zr8 := Dr.free 8 _ rfl
  have nr := Dr.lt
  have nG := (N.lt _ rfl).2
  go_wp2_with fail
  clear ax0 zx0 ax1 zx1 ax2 zx2 ax3 zx3 ax4 zx4 ax5 zx5 ax6 zx6 ax7 zx7 ax8 zx8 nx ar0 zr0 ar1 zr1 ar2 zr2 ar3 zr3 ar4 zr4 ar5 zr5 ar6 zr6 ar7 zr7 ar8 zr8 nr nG
  have Dx : At ((((((((((w1).setCell ⟨w.heap.size + 1, 0, none⟩ (.int .u64 (word (x.first) 0))).setCell ⟨w.heap.size + 1, 1, none⟩ (.int .u64 (word (x.first) 1))).setCell ⟨w.heap.size + 1, 2, none⟩ (.int .u64 (word (x.first) 2))).setCell ⟨w.heap.size + 1, 3, none⟩ (.int .u64 (word (x.first) 3))).setCell ⟨w.heap.size + 1, 4, none⟩ (.int .u64 (word (x.last) 0))).setCell ⟨w.heap.size + 1, 5, none⟩ (.int .u64 (word (x.last) 1))).setCell ⟨w.heap.size + 1, 6, none⟩ (.int .u64 (word (x.last) 2))).setCell ⟨w.heap.size + 1, 7, none⟩ (.int .u64 (word (x.last) 3))).setCell ⟨w.heap.size + 1, 8, none⟩ (.bool x.none)) (w.heap.size) [.int .u64 (word (x.first) 0), .int .u64 (word (x.first) 1), .int .u64 (word (x.first) 2), .int .u64 (word (x.first) 3), .int .u64 (word (x.last) 0), .int .u64 (word (x.last) 1), .int .u64 (word (x.last) 2), .int .u64 (word (x.last) 3), .bool x.none] := (((((((((Dx.far (b' := w.heap.size + 1) (j := 0) (by omega) (.int .u64 (word (x.first) 0))).far (b' := w.heap.size + 1) (j := 1) (by omega) (.int .u64 (word (x.first) 1))).far (b' := w.heap.size + 1) (j := 2) (by omega) (.int .u64 (word (x.first) 2))).far (b' := w.heap.size + 1) (j := 3) (by omega) (.int .u64 (word (x.first) 3))).far (b' := w.heap.size + 1) (j := 4) (by omega) (.int .u64 (word (x.last) 0))).far (b' := w.heap.size + 1) (j := 5) (by omega) (.int .u64 (word (x.last) 1))).far (b' := w.heap.size + 1) (j := 6) (by omega) (.int .u64 (word (x.last) 2))).far (b' := w.heap.size + 1) (j := 7) (by omega) (.int .u64 (word (x.last) 3))).far (b' := w.heap.size + 1) (j := 8) (by omega) (.bool x.none))
  have Dr : At ((((((((((w1).setCell ⟨w.heap.size + 1, 0, none⟩ (.int .u64 (word (x.first) 0))).setCell ⟨w.heap.size + 1, 1, none⟩ (.int .u64 (word (x.first) 1))).setCell ⟨w.heap.size + 1, 2, none⟩ (.int .u64 (word (x.first) 2))).setCell ⟨w.heap.size + 1, 3, none⟩ (.int .u64 (word (x.first) 3))).setCell ⟨w.heap.size + 1, 4, none⟩ (.int .u64 (word (x.last) 0))).setCell ⟨w.heap.size + 1, 5, none⟩ (.int .u64 (word (x.last) 1))).setCell ⟨w.heap.size + 1, 6, none⟩ (.int .u64 (word (x.last) 2))).setCell ⟨w.heap.size + 1, 7, none⟩ (.int .u64 (word (x.last) 3))).setCell ⟨w.heap.size + 1, 8, none⟩ (.bool x.none)) (w.heap.size + 1) [.int .u64 (word (x.first) 0), .int .u64 (word (x.first) 1), .int .u64 (word (x.first) 2), .int .u64 (word (x.first) 3), .int .u64 (word (x.last) 0), .int .u64 (word (x.last) 1), .int .u64 (word (x.last) 2), .int .u64 (word (x.last) 3), .bool x.none] := (((((((((Dr.set 0 (.int .u64 (word (x.first) 0))).set 1 (.int .u64 (word (x.first) 1))).set 2 (.int .u64 (word (x.first) 2))).set 3 (.int .u64 (word (x.first) 3))).set 4 (.int .u64 (word (x.last) 0))).set 5 (.int .u64 (word (x.last) 1))).set 6 (.int .u64 (word (x.last) 2))).set 7 (.int .u64 (word (x.last) 3))).set 8 (.bool x.none))
  have N := (((((((((N.setCell (b := w.heap.size + 1) (j := 0) (by omega) (by omega) (.int .u64 (word (x.first) 0))).setCell (b := w.heap.size + 1) (j := 1) (by omega) (by omega) (.int .u64 (word (x.first) 1))).setCell (b := w.heap.size + 1) (j := 2) (by omega) (by omega) (.int .u64 (word (x.first) 2))).setCell (b := w.heap.size + 1) (j := 3) (by omega) (by omega) (.int .u64 (word (x.first) 3))).setCell (b := w.heap.size + 1) (j := 4) (by omega) (by omega) (.int .u64 (word (x.last) 0))).setCell (b := w.heap.size + 1) (j := 5) (by omega) (by omega) (.int .u64 (word (x.last) 1))).setCell (b := w.heap.size + 1) (j := 6) (by omega) (by omega) (.int .u64 (word (x.last) 2))).setCell (b := w.heap.size + 1) (j := 7) (by omega) (by omega) (.int .u64 (word (x.last) 3))).setCell (b := w.heap.size + 1) (j := 8) (by omega) (by omega) (.bool x.none))
  have B := (grown_set (grown_set (grown_set (grown_set (grown_set (grown_set (grown_set (grown_set (grown_set B (p := ⟨w.heap.size + 1, 0, none⟩) (by dsimp only; omega) (.int .u64 (word (x.first) 0))) (p := ⟨w.heap.size + 1, 1, none⟩) (by dsimp only; omega) (.int .u64 (word (x.first) 1))) (p := ⟨w.heap.size + 1, 2, none⟩) (by dsimp only; omega) (.int .u64 (word (x.first) 2))) (p := ⟨w.heap.size + 1, 3, none⟩) (by dsimp only; omega) (.int .u64 (word (x.first) 3))) (p := ⟨w.heap.size + 1, 4, none⟩) (by dsimp only; omega) (.int .u64 (word (x.last) 0))) (p := ⟨w.heap.size + 1, 5, none⟩) (by dsimp only; omega) (.int .u64 (word (x.last) 1))) (p := ⟨w.heap.size + 1, 6, none⟩) (by dsimp only; omega) (.int .u64 (word (x.last) 2))) (p := ⟨w.heap.size + 1, 7, none⟩) (by dsimp only; omega) (.int .u64 (word (x.last) 3))) (p := ⟨w.heap.size + 1, 8, none⟩) (by dsimp only; omega) (.bool x.none))
  have ax0 := Dx.cell 0 _ rfl
  have zx0 := Dx.free 0 _ rfl
  have ax1 := Dx.cell 1 _ rfl
  have zx1 := Dx.free 1 _ rfl
  have ax2 := Dx.cell 2 _ rfl
  have zx2 := Dx.free 2 _ rfl
  have ax3 := Dx.cell 3 _ rfl
  have zx3 := Dx.free 3 _ rfl
  have ax4 := Dx.cell 4 _ rfl
  have zx4 := Dx.free 4 _ rfl
  have ax5 := Dx.cell 5 _ rfl
  have zx5 := Dx.free 5 _ rfl
  have ax6 := Dx.cell 6 _ rfl
  have zx6 := Dx.free 6 _ rfl
  have ax7 := Dx.cell 7 _ rfl
  have zx7 := Dx.free 7 _ rfl
  have ax8 := Dx.cell 8 _ rfl
  have zx8 := Dx.free 8 _ rfl
  have nx := Dx.lt
  have ar0 := Dr.cell 0 _ rfl
  have zr0 := Dr.free 0 _ rfl
  have ar1 := Dr.cell 1 _ rfl
  have zr1 := Dr.free 1 _ rfl
  have ar2 := Dr.cell 2 _ rfl
  have zr2 := Dr.free 2 _ rfl
  have ar3 := Dr.cell 3 _ rfl
  have zr3 := Dr.free 3 _ rfl
  have ar4 := Dr.cell 4 _ rfl
  have zr4 := Dr.free 4 _ rfl
  have ar5 := Dr.cell 5 _ rfl
  have zr5 := Dr.free 5 _ rfl
  have ar6 := Dr.cell 6 _ rfl
  have zr6 := Dr.free 6 _ rfl
  have ar7 := Dr.cell 7 _ rfl
  have zr7 := Dr.free 7 _ rfl
  have ar8 := Dr.cell 8 _ rfl
  have zr8 := Dr.free 8 _ rfl
  have nr := Dr.lt
  have nG := (N.lt _ rfl).2
  refine bodyPost_ret (by simp [results, Tryd.results56, go_sem, ar0, zr0, ar1, zr1, ar2, zr2, ar3, zr3, ar4, zr4, ar5, zr5, ar6, zr6, ar7, zr7, ar8, zr8, nr]; try rfl) rfl ?_
  exact ⟨rfl, N, B⟩
set_option maxHeartbeats 4000000 in
theorem perhaps_any (x : Rx.Pce) (w : World) :
    Calls Tryd.prog 55 #[pceV x] w fun e w' => e = .returned (pceV ⟨x.first, x.last, true⟩) ∧ Below w.heap.size w w' := by
  have B := Below.refl w.heap.size w
  unfold pceV
  go_enter Tryd.func55, Tryd.ntmps55
  go_wp2
  have Dx : At (((w).alloc (.cells #[.int .u64 (word (x.first) 0), .int .u64 (word (x.first) 1), .int .u64 (word (x.first) 2), .int .u64 (word (x.first) 3), .int .u64 (word (x.last) 0), .int .u64 (word (x.last) 1), .int .u64 (word (x.last) 2), .int .u64 (word (x.last) 3), .bool x.none] 53)).alloc (.cells #[.int .u64 0, .int .u64 0, .int .u64 0, .int .u64 0, .int .u64 0, .int .u64 0, .int .u64 0, .int .u64 0, .bool false] 53)) (w.heap.size) [.int .u64 (word (x.first) 0), .int .u64 (word (x.first) 1), .int .u64 (word (x.first) 2), .int .u64 (word (x.first) 3), .int .u64 (word (x.last) 0), .int .u64 (word (x.last) 1), .int .u64 (word (x.last) 2), .int .u64 (word (x.last) 3), .bool x.none] := by have h := ((At.new (w) #[.int .u64 (word (x.first) 0), .int .u64 (word (x.first) 1), .int .u64 (word (x.first) 2), .int .u64 (word (x.first) 3), .int .u64 (word (x.last) 0), .int .u64 (word (x.last) 1), .int .u64 (word (x.last) 2), .int .u64 (word (x.last) 3), .bool x.none] 53).alloc (.cells #[.int .u64 0, .int .u64 0, .int .u64 0, .int .u64 0, .int .u64 0, .int .u64 0, .int .u64 0, .int .u64 0, .bool false] 53)); simpa using h
  have Dr : At (((w).alloc (.cells #[.int .u64 (word (x.first) 0), .int .u64 (word (x.first) 1), .int .u64 (word (x.first) 2), .int .u64 (word (x.first) 3), .int .u64 (word (x.last) 0), .int .u64 (word (x.last) 1), .int .u64 (word (x.last) 2), .int .u64 (word (x.last) 3), .bool x.none] 53)).alloc (.cells #[.int .u64 0, .int .u64 0, .int .u64 0, .int .u64 0, .int .u64 0, .int .u64 0, .int .u64 0, .int .u64 0, .bool false] 53)) (w.heap.size + 1) [.int .u64 0, .int .u64 0, .int .u64 0, .int .u64 0, .int .u64 0, .int .u64 0, .int .u64 0, .int .u64 0, .bool false] := by have h := (At.new ((w).alloc (.cells #[.int .u64 (word (x.first) 0), .int .u64 (word (x.first) 1), .int .u64 (word (x.first) 2), .int .u64 (word (x.first) 3), .int .u64 (word (x.last) 0), .int .u64 (word (x.last) 1), .int .u64 (word (x.last) 2), .int .u64 (word (x.last) 3), .bool x.none] 53)) #[.int .u64 0, .int .u64 0, .int .u64 0, .int .u64 0, .int .u64 0, .int .u64 0, .int .u64 0, .int .u64 0, .bool false] 53); simpa using h
  have B := (below_new (below_new B (.cells #[.int .u64 (word (x.first) 0), .int .u64 (word (x.first) 1), .int .u64 (word (x.first) 2), .int .u64 (word (x.first) 3), .int .u64 (word (x.last) 0), .int .u64 (word (x.last) 1), .int .u64 (word (x.last) 2), .int .u64 (word (x.last) 3), .bool x.none] 53)) (.cells #[.int .u64 0, .int .u64 0, .int .u64 0, .int .u64 0, .int .u64 0, .int .u64 0, .int .u64 0, .int .u64 0, .bool false] 53))
  have Dx : At (((((((((((((w).alloc (.cells #[.int .u64 (word (x.first) 0), .int .u64 (word (x.first) 1), .int .u64 (word (x.first) 2), .int .u64 (word (x.first) 3), .int .u64 (word (x.last) 0), .int .u64 (word (x.last) 1), .int .u64 (word (x.last) 2), .int .u64 (word (x.last) 3), .bool x.none] 53)).alloc (.cells #[.int .u64 0, .int .u64 0, .int .u64 0, .int .u64 0, .int .u64 0, .int .u64 0, .int .u64 0, .int .u64 0, .bool false] 53)).setCell ⟨w.heap.size, 8, none⟩ (.bool true)).setCell ⟨w.heap.size + 1, 0, none⟩ (.int .u64 (word (x.first) 0))).setCell ⟨w.heap.size + 1, 1, none⟩ (.int .u64 (word (x.first) 1))).setCell ⟨w.heap.size + 1, 2, none⟩ (.int .u64 (word (x.first) 2))).setCell ⟨w.heap.size + 1, 3, none⟩ (.int .u64 (word (x.first) 3))).setCell ⟨w.heap.size + 1, 4, none⟩ (.int .u64 (word (x.last) 0))).setCell ⟨w.heap.size + 1, 5, none⟩ (.int .u64 (word (x.last) 1))).setCell ⟨w.heap.size + 1, 6, none⟩ (.int .u64 (word (x.last) 2))).setCell ⟨w.heap.size + 1, 7, none⟩ (.int .u64 (word (x.last) 3))).setCell ⟨w.heap.size + 1, 8, none⟩ (.bool true)) (w.heap.size) [.int .u64 (word (x.first) 0), .int .u64 (word (x.first) 1), .int .u64 (word (x.first) 2), .int .u64 (word (x.first) 3), .int .u64 (word (x.last) 0), .int .u64 (word (x.last) 1), .int .u64 (word (x.last) 2), .int .u64 (word (x.last) 3), .bool true] := ((((((((((Dx.set 8 (.bool true)).far (b' := w.heap.size + 1) (j := 0) (by omega) (.int .u64 (word (x.first) 0))).far (b' := w.heap.size + 1) (j := 1) (by omega) (.int .u64 (word (x.first) 1))).far (b' := w.heap.size + 1) (j := 2) (by omega) (.int .u64 (word (x.first) 2))).far (b' := w.heap.size + 1) (j := 3) (by omega) (.int .u64 (word (x.first) 3))).far (b' := w.heap.size + 1) (j := 4) (by omega) (.int .u64 (word (x.last) 0))).far (b' := w.heap.size + 1) (j := 5) (by omega) (.int .u64 (word (x.last) 1))).far (b' := w.heap.size + 1) (j := 6) (by omega) (.int .u64 (word (x.last) 2))).far (b' := w.heap.size + 1) (j := 7) (by omega) (.int .u64 (word (x.last) 3))).far (b' := w.heap.size + 1) (j := 8) (by omega) (.bool true))
  have Dr : At (((((((((((((w).alloc (.cells #[.int .u64 (word (x.first) 0), .int .u64 (word (x.first) 1), .int .u64 (word (x.first) 2), .int .u64 (word (x.first) 3), .int .u64 (word (x.last) 0), .int .u64 (word (x.last) 1), .int .u64 (word (x.last) 2), .int .u64 (word (x.last) 3), .bool x.none] 53)).alloc (.cells #[.int .u64 0, .int .u64 0, .int .u64 0, .int .u64 0, .int .u64 0, .int .u64 0, .int .u64 0, .int .u64 0, .bool false] 53)).setCell ⟨w.heap.size, 8, none⟩ (.bool true)).setCell ⟨w.heap.size + 1, 0, none⟩ (.int .u64 (word (x.first) 0))).setCell ⟨w.heap.size + 1, 1, none⟩ (.int .u64 (word (x.first) 1))).setCell ⟨w.heap.size + 1, 2, none⟩ (.int .u64 (word (x.first) 2))).setCell ⟨w.heap.size + 1, 3, none⟩ (.int .u64 (word (x.first) 3))).setCell ⟨w.heap.size + 1, 4, none⟩ (.int .u64 (word (x.last) 0))).setCell ⟨w.heap.size + 1, 5, none⟩ (.int .u64 (word (x.last) 1))).setCell ⟨w.heap.size + 1, 6, none⟩ (.int .u64 (word (x.last) 2))).setCell ⟨w.heap.size + 1, 7, none⟩ (.int .u64 (word (x.last) 3))).setCell ⟨w.heap.size + 1, 8, none⟩ (.bool true)) (w.heap.size + 1) [.int .u64 (word (x.first) 0), .int .u64 (word (x.first) 1), .int .u64 (word (x.first) 2), .int .u64 (word (x.first) 3), .int .u64 (word (x.last) 0), .int .u64 (word (x.last) 1), .int .u64 (word (x.last) 2), .int .u64 (word (x.last) 3), .bool true] := ((((((((((Dr.far (b' := w.heap.size) (j := 8) (by omega) (.bool true)).set 0 (.int .u64 (word (x.first) 0))).set 1 (.int .u64 (word (x.first) 1))).set 2 (.int .u64 (word (x.first) 2))).set 3 (.int .u64 (word (x.first) 3))).set 4 (.int .u64 (word (x.last) 0))).set 5 (.int .u64 (word (x.last) 1))).set 6 (.int .u64 (word (x.last) 2))).set 7 (.int .u64 (word (x.last) 3))).set 8 (.bool true))
  have B := ((((((((((B.setCell (p := ⟨w.heap.size, 8, none⟩) (by dsimp only; omega) (.bool true)).setCell (p := ⟨w.heap.size + 1, 0, none⟩) (by dsimp only; omega) (.int .u64 (word (x.first) 0))).setCell (p := ⟨w.heap.size + 1, 1, none⟩) (by dsimp only; omega) (.int .u64 (word (x.first) 1))).setCell (p := ⟨w.heap.size + 1, 2, none⟩) (by dsimp only; omega) (.int .u64 (word (x.first) 2))).setCell (p := ⟨w.heap.size + 1, 3, none⟩) (by dsimp only; omega) (.int .u64 (word (x.first) 3))).setCell (p := ⟨w.heap.size + 1, 4, none⟩) (by dsimp only; omega) (.int .u64 (word (x.last) 0))).setCell (p := ⟨w.heap.size + 1, 5, none⟩) (by dsimp only; omega) (.int .u64 (word (x.last) 1))).setCell (p := ⟨w.heap.size + 1, 6, none⟩) (by dsimp only; omega) (.int .u64 (word (x.last) 2))).setCell (p := ⟨w.heap.size + 1, 7, none⟩) (by dsimp only; omega) (.int .u64 (word (x.last) 3))).setCell (p := ⟨w.heap.size + 1, 8, none⟩) (by dsimp only; omega) (.bool true))
  have ax0 := Dx.cell 0 _ rfl
  have zx0 := Dx.free 0 _ rfl
  have ax1 := Dx.cell 1 _ rfl
  have zx1 := Dx.free 1 _ rfl
  have ax2 := Dx.cell 2 _ rfl
  have zx2 := Dx.free 2 _ rfl
  have ax3 := Dx.cell 3 _ rfl
  have zx3 := Dx.free 3 _ rfl
  have ax4 := Dx.cell 4 _ rfl
  have zx4 := Dx.free 4 _ rfl
  have ax5 := Dx.cell 5 _ rfl
  have zx5 := Dx.free 5 _ rfl
  have ax6 := Dx.cell 6 _ rfl
  have zx6 := Dx.free 6 _ rfl
  have ax7 := Dx.cell 7 _ rfl
  have zx7 := Dx.free 7 _ rfl
  have ax8 := Dx.cell 8 _ rfl
  have zx8 := Dx.free 8 _ rfl
  have nx := Dx.lt
  have ar0 := Dr.cell 0 _ rfl
  have zr0 := Dr.free 0 _ rfl
  have ar1 := Dr.cell 1 _ rfl
  have zr1 := Dr.free 1 _ rfl
  have ar2 := Dr.cell 2 _ rfl
  have zr2 := Dr.free 2 _ rfl
  have ar3 := Dr.cell 3 _ rfl
  have zr3 := Dr.free 3 _ rfl
  have ar4 := Dr.cell 4 _ rfl
  have zr4 := Dr.free 4 _ rfl
  have ar5 := Dr.cell 5 _ rfl
  have zr5 := Dr.free 5 _ rfl
  have ar6 := Dr.cell 6 _ rfl
  have zr6 := Dr.free 6 _ rfl
  have ar7 := Dr.cell 7 _ rfl
  have zr7 := Dr.free 7 _ rfl
  have ar8 := Dr.cell 8 _ rfl
  have zr8 := Dr.free 8 _ rfl
  have nr := Dr.lt
  refine bodyPost_ret (by simp [results, Tryd.results55, go_sem, ar0, zr0, ar1, zr1, ar2, zr2, ar3, zr3, ar4, zr4, ar5, zr5, ar6, zr6, ar7, zr7, ar8, zr8, nr]; try rfl) rfl ?_
  exact ⟨rfl, by go_grown⟩
end Go.Proofs.YtcfdpbbpdnpnnaaDoor
