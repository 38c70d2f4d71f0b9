/- The reference: set, whatever stands behind the bracket. -/
import Derived.Test.YtcfdpbbpdnpnnaaDoorRSetE
import Derived.Test.YtcfdpbbpdnpnnaaDoorRSetN
import Derived.Test.YtcfdpbbpdnpnnaaDoorRSetT
namespace Go.Proofs.YtcfdpbbpdnpnnaaDoor
open Go Go.Proofs Go.RowKit Go.Shelf
set_option maxRecDepth 100000
theorem rset_any (b : Nat) (s : ByteArray) (l : List UInt8) (z dz : Int) (k dp : Nat) (w : World) (R : Pa b s l z dz 0 0 k dp w) (h91 : Rx.pk l k = 91) :
    Calls Tryd.prog 49 #[.pointer (some ⟨b, 0, none⟩)] w (NP b w s l dp (Rx.setF l k)) := by
  obtain rfl := R.hk
  have hk := Rx.pk_lt (l := l) (k := k) (by omega)
  by_cases h94 : Rx.pk l (k + 1) = 94
  · have e : Rx.setF l k = setRes true (Rx.itemsF l (l.length + 1) (k + 2) []) := by
      unfold Rx.setF; rw [if_pos h94, show (Rx.pk l (k + 1) == 94) = true from by rw [beq_iff_eq]; exact h94]; rfl
    rw [e]
    exact set_T b s l dz k dp w R hk (Rx.pk_lt (by omega)) h94 _ rfl
  · have e : Rx.setF l k = setRes false (Rx.itemsF l (l.length + 1) (k + 1) []) := by
      unfold Rx.setF; rw [if_neg h94, show (Rx.pk l (k + 1) == 94) = false from by rw [beq_eq_false_iff_ne]; exact h94]; rfl
    rw [e]
    by_cases hlt : k + 1 < l.length
    · exact set_N b s l dz k dp w R hk hlt h94 _ rfl
    · exact set_E b s l dz k dp w R hk (by omega) _ rfl
end Go.Proofs.YtcfdpbbpdnpnnaaDoor
