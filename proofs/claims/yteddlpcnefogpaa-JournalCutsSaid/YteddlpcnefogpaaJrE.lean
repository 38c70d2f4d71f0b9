/- The reference's Encode. -/
import Derived.Test.YteddlpcnefogpaaJnE
import Derived.Test.YteddlpcnefogpaaDkL
namespace Go.Proofs.Yteddlpcnefogpaa
open Go Go.Proofs Go.RowKit Go.Shelf
set_option maxRecDepth 100000
def REnc (r : Rec) (w : World) (e : Ending) (w' : World) : Prop :=
  Below w.heap.size w w' ∧ e = .returned (if 65535 < r.2.length then .tuple #[.string ⟨#[]⟩, .int .i64 4] else if r.1 = 0 then .tuple #[.string ⟨#[]⟩, .int .i64 1] else .tuple #[.string ⟨(encR r).toArray⟩, .int .i64 0])
theorem conv_new (w : World) (l : List UInt8) (cs : Array Value) (n : Nat) (hc : cs = (l.map byV).toArray) (hn : n = l.length) : (convert 22 9 (.slice (some ⟨w.heap.size, 0, none⟩) n n)).run Try.prog (w.alloc (.cells cs 5)) = .ok (.string ⟨l.toArray⟩) (w.alloc (.cells cs 5)) :=
  text_of_bys (bys_new w l cs n n (0, 0) hc hn)
set_option maxHeartbeats 8000000 in
theorem rencode_any (k : UInt8) (d : List UInt8) (w : World) (hbig : d.length ≤ 1099511627776) :
    Calls Try.prog 17 #[.agg #[byV k, .string ⟨d.toArray⟩]] w (REnc (k, d) w) := by
  have hk0 : ((k.toNat : Int) == 0) = decide (k = 0) := by
    rw [Bool.eq_iff_iff]
    simp only [beq_iff_eq, decide_eq_true_eq, ← UInt8.toNat_inj]
    exact Int.natCast_eq_zero
  by_cases hl : 65535 < d.length
  · have HP : Hid (∀ w', Below w.heap.size w w' → REnc (k, d) w (.returned (.tuple #[.string ⟨#[]⟩, .int .i64 4])) w') := fun w' hb => by
      unfold REnc; rw [if_pos hl]; exact ⟨hb, rfl⟩
    have q : (65535 : Int) < (d.length : Int) := by omega
    clear hk0 hl
    go_enter Try.func17, Try.ntmps17
    go_wp2
    refine bodyPost_ret (by simp [results, Try.f17, go_sem]; try rfl) rfl ?_
    exact HP.out _ (below_cells _)
  · have q : ¬ (65535 : Int) < (d.length : Int) := by omega
    by_cases h0 : k = 0
    · have HP : Hid (∀ w', Below w.heap.size w w' → REnc (k, d) w (.returned (.tuple #[.string ⟨#[]⟩, .int .i64 1])) w') := fun w' hb => by
        unfold REnc; rw [if_neg hl, if_pos h0]; exact ⟨hb, rfl⟩
      have q2 : ((k.toNat : Int) == 0) = true := by rw [hk0]; simpa using h0
      clear hk0 hl h0
      go_enter Try.func17, Try.ntmps17
      go_wp2
      refine bodyPost_ret (by simp [results, Try.f17, go_sem]; try rfl) rfl ?_
      exact HP.out _ (below_cells _)
    · have HP : Hid (∀ w', Below w.heap.size w w' → REnc (k, d) w (.returned (.tuple #[.string ⟨(encR (k, d)).toArray⟩, .int .i64 0])) w') := fun w' hb => by
        unfold REnc; rw [if_neg hl, if_neg h0]; exact ⟨hb, rfl⟩
      have q2 : ((k.toNat : Int) == 0) = false := by rw [hk0]; simpa using h0
      have hlen : d.length ≤ 65535 := by omega
      have u1 : byV (UInt8.ofNat d.length) = .int .u8 ((d.length : Int) % 256) := u8_is _
      have u2 : byV (UInt8.ofNat (d.length / 256)) = .int .u8 ((d.length : Int) / 256) := by rw [u8_is]; congr 1; omega
      have cv1 : (convert 22 9 (.slice (some ⟨w.heap.size + 1, 0, none⟩) 3 3)).run Try.prog ((w.alloc (.cells #[byV k, .string ⟨d.toArray⟩] 48)).alloc (.cells #[.int .u8 ((d.length : Int) % 256), .int .u8 ((d.length : Int) / 256), byV k] 5)) = .ok (.string ⟨[UInt8.ofNat d.length, UInt8.ofNat (d.length / 256), k].toArray⟩) ((w.alloc (.cells #[byV k, .string ⟨d.toArray⟩] 48)).alloc (.cells #[.int .u8 ((d.length : Int) % 256), .int .u8 ((d.length : Int) / 256), byV k] 5)) := by
        have h := conv_new (w.alloc (.cells #[byV k, .string ⟨d.toArray⟩] 48)) [UInt8.ofNat d.length, UInt8.ofNat (d.length / 256), k] #[.int .u8 ((d.length : Int) % 256), .int .u8 ((d.length : Int) / 256), byV k] 3 (by rw [← u1, ← u2]; rfl) rfl
        rwa [World.size_alloc] at h
      have cv2 : (convert 22 9 (.slice (some ⟨w.heap.size + 1 + 1, 0, none⟩) 1 1)).run Try.prog (((w.alloc (.cells #[byV k, .string ⟨d.toArray⟩] 48)).alloc (.cells #[.int .u8 ((d.length : Int) % 256), .int .u8 ((d.length : Int) / 256), byV k] 5)).alloc (.cells #[byV k] 5)) = .ok (.string ⟨[k].toArray⟩) (((w.alloc (.cells #[byV k, .string ⟨d.toArray⟩] 48)).alloc (.cells #[.int .u8 ((d.length : Int) % 256), .int .u8 ((d.length : Int) / 256), byV k] 5)).alloc (.cells #[byV k] 5)) := by
        have h := conv_new ((w.alloc (.cells #[byV k, .string ⟨d.toArray⟩] 48)).alloc (.cells #[.int .u8 ((d.length : Int) % 256), .int .u8 ((d.length : Int) / 256), byV k] 5)) [k] #[byV k] 1 rfl rfl
        rwa [World.size_alloc, World.size_alloc] at h
      have s3 : ((⟨[UInt8.ofNat d.length, UInt8.ofNat (d.length / 256), k].toArray⟩ : ByteArray) ++ ⟨d.toArray⟩) = ⟨(UInt8.ofNat d.length :: UInt8.ofNat (d.length / 256) :: k :: d).toArray⟩ := bapp _ _
      have s4 : ((⟨(UInt8.ofNat d.length :: UInt8.ofNat (d.length / 256) :: k :: d).toArray⟩ : ByteArray) ++ ⟨[k].toArray⟩) = ⟨(encR (k, d)).toArray⟩ := bapp _ _
      clear hk0 hl h0 u1 u2
      go_enter Try.func17, Try.ntmps17
      go_wp2
      refine bodyPost_ret (by simp [results, Try.f17, go_sem]; try rfl) rfl ?_
      exact HP.out _ (below_new (below_new (below_cells _) _) _)
end Go.Proofs.Yteddlpcnefogpaa
