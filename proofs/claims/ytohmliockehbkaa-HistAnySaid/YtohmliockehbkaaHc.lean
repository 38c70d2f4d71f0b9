/- hist.Put. -/
import Derived.Test.YtohmliockehbkaaHb
import Derived.Test.YtohmliockehbkaaTa
import Derived.Shelf.RegionOpen
namespace Go.Proofs.Ytohmliockehbkaa
open Go Go.Proofs Go.RowKit Go.Shelf
set_option maxRecDepth 100000
set_option maxHeartbeats 4000000 in
theorem put_any (b : Nat) (h : List Int) (v x : Int) (w : World) (H : HAt 25 w b h) (hv : I64 v) (hx : h[bucketR v]? = some x) (hr : 0 ≤ x ∧ x ≤ 1125899906842624) :
    Calls Try.prog 8 #[.pointer (some ⟨b, 0, none⟩), .int .i64 v] w fun e w' => (∃ r, e = .returned r) ∧ w' = (w.setCell ⟨b, bucketR v, none⟩ (.int .i64 (x + 1))).drew := by
  have hk := bucketR_le v hv.2
  have HB := Lib.hid (fun W => bucket_any v hv W)
  have hc0 : w.drew.cell? ⟨b, bucketR v, none⟩ = some (.int .i64 x) := H.drew.cell hx
  have hf0 : w.drew.frozen? ⟨b, bucketR v, none⟩ = false := H.drew.free _
  clear hv hx H
  generalize bucketR v = k at *
  go_enter Try.func8, Try.ntmps8
  go_region_with (first | (go_at_call 9; refine (HB.out _).mono ?_; rintro e w2 ⟨rfl, rfl⟩))
  all_goals
    go_end0
    refine ⟨⟨_, rfl⟩, ?_⟩
    rw [show IntKind.i64.wrap (x + 1) = x + 1 from by rw [IntKind.wrap_i64]; first | omega | exact wr64 (n := x + 1) (by omega) (by omega)]
end Go.Proofs.Ytohmliockehbkaa
