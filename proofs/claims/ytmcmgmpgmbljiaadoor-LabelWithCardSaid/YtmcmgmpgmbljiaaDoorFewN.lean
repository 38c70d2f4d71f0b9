/- belfrylaw3.few. -/
import Derived.Test.YtmcmgmpgmbljiaaDoorPicked
namespace Go.Proofs.YtmcmgmpgmbljiaaDoor
open Go Go.Proofs Go.RowKit Go.Shelf
set_option maxRecDepth 100000
/-- texts of whatever length and number in memory -/
def NamesG (n₀ : Nat) (W : World) (nv : Value) (ns : List (List UInt8)) : Prop :=
  (∃ a c, nv = .slice a 0 c ∧ ns = []) ∨ ∃ b off cap, nv = .slice (some ⟨b, off, none⟩) ns.length cap ∧ b < n₀ ∧ ∀ j x, ns[j]? = some x → W.cell? ⟨b, off + j, none⟩ = some (.string ⟨x.toArray⟩)
theorem NamesG.later {W w1 : World} {nv : Value} {ns : List (List UInt8)} (h : NamesG W.heap.size W nv ns) (hb : Below W.heap.size W w1) : NamesG w1.heap.size w1 nv ns := by
  rcases h with e | ⟨b, off, cap, e, h1, h2⟩
  · exact .inl e
  · exact .inr ⟨b, off, cap, e, Nat.lt_of_lt_of_le h1 hb.size, fun j x hj => (hb.cell (p := ⟨b, off + j, none⟩) h1).trans (h2 j x hj)⟩
theorem NamesG.few {n₀ : Nat} {W : World} {nv : Value} {ns : List (List UInt8)} (h : NamesG n₀ W nv ns) (hl : ns.length ≤ 1000) : Names n₀ W nv ns := by
  rcases h with e | ⟨b, off, cap, e, h1, h2⟩
  · exact .inl e
  · exact .inr ⟨b, off, cap, e, h1, hl, h2⟩
theorem NamesG.len {n₀ : Nat} {W : World} {a : Option Addr} {len cap : Nat} {ns : List (List UInt8)} (h : NamesG n₀ W (.slice a len cap) ns) : len = ns.length := by
  rcases h with ⟨_, _, e, rfl⟩ | ⟨b, off, c, e, _⟩
  · injection e
  · injection e
def fewN (ns : List (List UInt8)) : Bool := decide (ns.length ≤ 30) && ns.all fun x => decide (x.length ≤ 200)
theorem fewN_any (a : Option Addr) (len cap : Nat) (ns : List (List UInt8)) (hlen : ns.length ≤ 9223372036854775807) (hbig : ∀ x ∈ ns, x.length ≤ 9223372036854775807) (n₀ : Nat) (w : World) (hI : NamesG n₀ w (.slice a len cap) ns) :
    Calls Tryd.prog 24 #[.slice a len cap] w fun e w' => e = .returned (.bool (fewN ns)) ∧ w = w' := by
  obtain rfl : len = ns.length := hI.len
  by_cases h30 : 30 < ns.length
  · have hz : (30 : Int) < (ns.length : Int) := by omega
    have HR : Hid (fewN ns = false) := by unfold Hid fewN; rw [decide_eq_false (by omega)]; rfl
    go_enter Tryd.func24, Tryd.ntmps24
    go_wp2
    go_ret
    exact ⟨by rw [HR.out]; rfl, rfl⟩
  have hz : ¬ (30 : Int) < (ns.length : Int) := by omega
  have HR : Hid (fewN ns = ns.all fun x => decide (x.length ≤ 200)) := by unfold Hid fewN; rw [decide_eq_true (by omega)]; rfl
  have HI := Lib.hid hI
  have HB := Lib.hid hbig
  clear hI hbig
  go_enter Tryd.func24, Tryd.ntmps24
  go_wp2
  go_loop [3] (fun i => ∃ k : Nat, k ≤ ns.length ∧ i = .int .i64 (k : Int) ∧ ((ns.take k).all fun x => decide (x.length ≤ 200)) = true) (fun i => ns.length - (intOf i).toNat)
  case atStart => exact ⟨0, Nat.zero_le _, rfl, rfl⟩
  case round =>
    obtain ⟨k, hk, rfl, hP⟩ := hrel
    by_cases hlt : k < ns.length
    · obtain ⟨x, hx⟩ : ∃ x, ns[k]? = some x := ⟨_, List.getElem?_eq_getElem hlt⟩
      obtain ⟨hn, he⟩ := List.getElem?_eq_some_iff.1 hx
      have hsn : ((ns.take (k + 1)).all fun x => decide (x.length ≤ 200)) = decide (x.length ≤ 200) := by rw [List.take_succ_eq_append_getElem hn, he, List.all_append, hP]; simp
      have b1 := HB.out x (List.mem_of_getElem? hx)
      have NO : Hid (decide (x.length ≤ 200) = false → (ns.all fun x => decide (x.length ≤ 200)) = false) := fun h => by rw [List.all_eq_false]; exact ⟨x, List.mem_of_getElem? hx, by rw [h]; simp⟩
      rcases HI.out with ⟨_, _, _, rfl⟩ | ⟨b, off, c, e, hb, hc⟩
      · simp at hlt
      obtain ⟨rfl, rfl⟩ : a = some ⟨b, off, none⟩ ∧ cap = c := by simpa using e
      have c0 := hc k x hx
      have h0 : (0 : Int) ≤ (k : Int) := by omega
      have h1 : (k : Int) < (ns.length : Int) := by omega
      have SN := Lib.hid hsn
      clear e hc hx hP he hsn
      by_cases q1 : x.length ≤ 200
      · have p1 : ¬ (200 : Int) < (x.length : Int) := by omega
        go_wp2
        go_round
        case rel => exact ⟨k + 1, by omega, by go_num, by rw [SN.out, decide_eq_true q1]⟩
        case measure => simp [intOf]; omega
      · have p1 : (200 : Int) < (x.length : Int) := by omega
        go_wp2
        go_ret
        exact ⟨by rw [HR.out, NO.out (decide_eq_false q1)]; rfl, rfl⟩
    · obtain rfl : k = ns.length := by omega
      rw [List.take_length] at hP
      have PP := Lib.hid hP
      clear hP
      go_wp2
      go_ret
      exact ⟨by rw [HR.out, PP.out]; rfl, rfl⟩
theorem fewN_len {ns : List (List UInt8)} (h : fewN ns = true) : ns.length ≤ 30 ∧ ∀ x ∈ ns, x.length ≤ 200 := by
  unfold fewN at h
  rw [Bool.and_eq_true, decide_eq_true_eq, List.all_eq_true] at h
  exact ⟨h.1, fun x hx => by simpa using h.2 x hx⟩
end Go.Proofs.YtmcmgmpgmbljiaaDoor
