/- Labels and samples of the document's: what earlier stages walked. -/
import Derived.Test.YtedcdhngiofpjaaGreatDoorProg
import Derived.Test.YtedcdhngiofpjaaGreatDoorTk7
import Derived.Tactics
import Derived.Tactics2
import Derived.WalkKit
import Derived.Outline
import Derived.Handy
import Derived.Deep.RegionHeld3
import Derived.Deep.DeepCutAuto
import Derived.Deep.QuietTactic
import Derived.BigQuiet
import Derived.KernelRfl
import Derived.WalkSpells
import Derived.WalkLawsBesides
import Derived.Laws.StructEq
import Derived.Lib.Hide
import Derived.Lib.ConvBytes
import Derived.Lib.IndexBytes
import Derived.Lib.Strings
import Derived.Shelf.RegionOpen
import Derived.LoopTactic
import Derived.Deep.RegionLaw
namespace Go.Proofs.YtedcdhngiofpjaaGreatDoor
open Go Go.Proofs Go.RowKit Go.Shelf
set_option maxRecDepth 100000
/-- may it stand first in a name; may it stand in a name -/
def isLet (c : UInt8) : Bool := (decide (97 ≤ c.toNat) && decide (c.toNat ≤ 122)) || decide (c.toNat = 95)
def isWord (c : UInt8) : Bool := isLet c || (decide (48 ≤ c.toNat) && decide (c.toNat ≤ 57))
def nameR : List UInt8 → Bool
  | [] => false
  | c :: t => decide ((c :: t).length ≤ 16) && isLet c && (c :: t).all isWord
def badB (c : UInt8) : Bool := decide (c.toNat < 32) || decide (126 < c.toNat)
def valueR (l : List UInt8) : Bool := !l.isEmpty && decide (l.length ≤ 64) && !l.any badB
theorem printable_at (s : ByteArray) (l : List UInt8) (hud : s.data.toList = l) (hl : l.length ≤ 9223372036854775807) (w : World) :
    Calls Tryz.prog 100 #[.string s] w fun e w' => e = .returned (.bool (!l.any badB)) ∧ w = w' := by
  have hsz : s.size = l.length := by rw [Lib.size_eq, hud]
  have HU := Lib.hid hud
  clear hud
  go_enter Tryz.func100, Tryz.ntmps100
  go_wp2
  go_loop [3] (fun i => ∃ k : Nat, k ≤ l.length ∧ i = .int .i64 (k : Int) ∧ (l.take k).any badB = false) (fun i => l.length - (intOf i).toNat)
  case atStart => exact ⟨0, Nat.zero_le _, rfl, rfl⟩
  case round =>
    obtain ⟨k, hk, rfl, hP⟩ := hrel
    by_cases hlt : k < l.length
    · have hi : k < s.size := by omega
      obtain ⟨c, hc⟩ : ∃ c : UInt8, s[k]'hi = c := ⟨_, rfl⟩
      have hcl : l[k]? = some c := by rw [← HU.out, ← hc]; exact Lib.data_getElem? s k hi
      obtain ⟨hn, he⟩ := List.getElem?_eq_some_iff.1 hcl
      have hsn : (l.take (k + 1)).any badB = badB c := by rw [List.take_succ_eq_append_getElem hn, he, List.any_append, hP]; simp
      have h0 : (0 : Int) ≤ (k : Int) := by omega
      have h1 : (k : Int) < (s.size : Int) := by omega
      have hbd : badB c = (decide (c.toNat < 32) || decide (126 < c.toNat)) := rfl
      have hin : c ∈ l := List.mem_of_getElem? hcl
      have SN := Lib.hid hsn
      have PP := Lib.hid hP
      have BD := Lib.hid hbd
      have IN := Lib.hid hin
      clear hsn hP hcl he hbd hin
      by_cases q1 : c.toNat < 32
      · have d1 : decide ((c.toNat : Int) < 32) = true := by rw [decide_eq_true_eq]; omega
        go_wp2
        go_ret
        exact ⟨by rw [List.any_eq_true.2 ⟨c, IN.out, by rw [BD.out, decide_eq_true q1]; rfl⟩]; rfl, rfl⟩
      · have d1 : decide ((c.toNat : Int) < 32) = false := by rw [decide_eq_false_iff_not]; omega
        by_cases q2 : 126 < c.toNat
        · have d2 : decide ((126 : Int) < (c.toNat : Int)) = true := by rw [decide_eq_true_eq]; omega
          go_wp2
          go_ret
          exact ⟨by rw [List.any_eq_true.2 ⟨c, IN.out, by rw [BD.out, decide_eq_true q2, Bool.or_true]⟩]; rfl, rfl⟩
        · have d2 : decide ((126 : Int) < (c.toNat : Int)) = false := by rw [decide_eq_false_iff_not]; omega
          go_wp2
          go_round
          case rel => exact ⟨k + 1, by omega, by go_num, by rw [SN.out, BD.out, decide_eq_false q1, decide_eq_false q2]; rfl⟩
          case measure => simp [intOf]; omega
    · obtain rfl : k = l.length := by omega
      have h1 : ¬ (l.length : Int) < (s.size : Int) := by omega
      rw [List.take_length] at hP
      have PP := Lib.hid hP
      clear hP
      go_wp2
      go_ret
      exact ⟨by rw [PP.out]; rfl, rfl⟩
theorem rvalue_any (l : List UInt8) (hl : l.length ≤ 9223372036854775807) (w : World) :
    Calls Tryz.prog 65 #[.string ⟨l.toArray⟩] w fun e w' => e = .returned (.bool (valueR l)) ∧ w = w' := by
  have hsz : (⟨l.toArray⟩ : ByteArray).size = l.length := rfl
  have C := Lib.hid (fun W => printable_at ⟨l.toArray⟩ l rfl hl W)
  have R : Hid (valueR l = (!l.isEmpty && decide (l.length ≤ 64) && !l.any badB)) := rfl
  by_cases h0 : l.length = 0
  · obtain rfl : l = [] := List.eq_nil_of_length_eq_zero h0
    go_enter Tryz.func65, Tryz.ntmps65
    go_wp2
    go_ret
    exact ⟨rfl, rfl⟩
  · have h1 : (1 : Int) ≤ (l.length : Int) := by omega
    have hemp : l.isEmpty = false := by cases l with | nil => simp at h0 | cons _ _ => rfl
    by_cases h64 : l.length ≤ 64
    · have h2 : (l.length : Int) ≤ 64 := by omega
      have R2 : Hid (valueR l = !l.any badB) := by unfold Hid; rw [R.out, hemp, decide_eq_true h64]; simp
      clear R h0 hemp
      generalize l.any badB = b at *
      go_enter Tryz.func65, Tryz.ntmps65
      go_wp2_with fail
      refine (C.out _).mono ?_
      rintro e w1 ⟨rfl, rfl⟩
      go_wp2
      go_ret
      exact ⟨by rw [R2.out]; rfl, rfl⟩
    · have h2 : ¬ (l.length : Int) ≤ 64 := by omega
      have R2 : Hid (valueR l = false) := by unfold Hid; rw [R.out, decide_eq_false h64]; simp
      clear R h0 hemp
      go_enter Tryz.func65, Tryz.ntmps65
      go_wp2
      go_ret
      exact ⟨by rw [R2.out]; rfl, rfl⟩
theorem isWord_iff (c : UInt8) : isWord c = !(((decide (c.toNat < 97) || decide (122 < c.toNat)) && (decide (c.toNat < 48) || decide (57 < c.toNat))) && !(decide (c.toNat = 95))) := by
  have h : ∀ n : Fin 256, isWord (UInt8.ofNat n.val) = !(((decide ((UInt8.ofNat n.val).toNat < 97) || decide (122 < (UInt8.ofNat n.val).toNat)) && (decide ((UInt8.ofNat n.val).toNat < 48) || decide (57 < (UInt8.ofNat n.val).toNat))) && !(decide ((UInt8.ofNat n.val).toNat = 95))) := by decide +kernel
  have := h ⟨c.toNat, c.toNat_lt⟩
  rwa [UInt8.ofNat_toNat] at this
theorem isLet_iff (c : UInt8) (h : isWord c = true) : isLet c = !(decide (48 ≤ c.toNat) && decide (c.toNat ≤ 57)) := by
  have g : ∀ n : Fin 256, isWord (UInt8.ofNat n.val) = true → isLet (UInt8.ofNat n.val) = !(decide (48 ≤ (UInt8.ofNat n.val).toNat) && decide ((UInt8.ofNat n.val).toNat ≤ 57)) := by decide +kernel
  have := g ⟨c.toNat, c.toNat_lt⟩
  rw [show UInt8.ofNat (⟨c.toNat, c.toNat_lt⟩ : Fin 256).val = c from UInt8.ofNat_toNat] at this
  exact this h
set_option maxHeartbeats 1000000 in
theorem rname_at (s : ByteArray) (l : List UInt8) (hud : s.data.toList = l) (hl : l.length ≤ 9223372036854775807) (w : World) :
    Calls Tryz.prog 64 #[.string s] w fun e w' => e = .returned (.bool (nameR l)) ∧ w = w' := by
  have hsz : s.size = l.length := by rw [Lib.size_eq, hud]
  rcases l with _ | ⟨c0, t⟩
  · have hs0 : (s.size : Int) < 1 := by rw [hsz]; decide
    go_enter Tryz.func64, Tryz.ntmps64
    go_wp2
    go_ret
    exact ⟨rfl, rfl⟩
  have hR : nameR (c0 :: t) = (decide ((c0 :: t).length ≤ 16) && isLet c0 && (c0 :: t).all isWord) := rfl
  have hpos : 0 < (c0 :: t).length := by simp
  have h0w : (c0 :: t)[0]? = some c0 := rfl
  obtain ⟨l, hll⟩ : ∃ l, c0 :: t = l := ⟨_, rfl⟩
  rw [hll] at hud hl hsz hR hpos h0w ⊢
  clear hll
  have hs1 : ¬ (s.size : Int) < 1 := by omega
  by_cases h16 : 16 < l.length
  · have h2 : (16 : Int) < (s.size : Int) := by omega
    have HR : Hid (nameR l = false) := by unfold Hid; rw [hR, decide_eq_false (by omega)]; rfl
    clear hR hud h0w
    go_enter Tryz.func64, Tryz.ntmps64
    go_wp2
    go_ret
    exact ⟨by rw [HR.out]; rfl, rfl⟩
  have h2 : ¬ (16 : Int) < (s.size : Int) := by omega
  have hi0 : 0 < s.size := by omega
  have hc0 : s[0]'hi0 = c0 := by
    have := Lib.data_getElem? s 0 hi0
    rw [hud, h0w] at this
    exact (Option.some.inj this).symm
  have HU := Lib.hid hud
  have HR := Lib.hid hR
  by_cases hdig : 48 ≤ c0.toNat ∧ c0.toNat ≤ 57
  · have d1 : decide ((48 : Int) ≤ (c0.toNat : Int)) = true := by rw [decide_eq_true_eq]; omega
    have d2 : decide ((c0.toNat : Int) ≤ 57) = true := by rw [decide_eq_true_eq]; omega
    have HN : Hid (nameR l = false) := by
      unfold Hid; rw [hR, show isLet c0 = false from by unfold isLet; simp; omega]; simp
    clear hR hud h0w
    go_enter Tryz.func64, Tryz.ntmps64
    go_wp2
    go_ret
    exact ⟨by rw [HN.out]; rfl, rfl⟩
  have hdg : (decide ((48 : Int) ≤ (c0.toNat : Int)) && decide ((c0.toNat : Int) ≤ 57)) = false := by
    rw [Bool.and_eq_false_iff, decide_eq_false_iff_not, decide_eq_false_iff_not]; omega
  -- behind the first test: all of the word, or none
  have NO : Hid (∀ c ∈ l, isWord c = false → nameR l = false) := by
    intro c hc hw
    rw [hR]
    have : l.all isWord = false := by rw [List.all_eq_false]; exact ⟨c, hc, by rw [hw]; simp⟩
    rw [this]; simp
  have YES : Hid (l.all isWord = true → nameR l = true) := by
    intro h
    have hin : c0 ∈ l := List.mem_of_getElem? h0w
    have hw := List.all_eq_true.1 h c0 hin
    rw [hR, h, isLet_iff c0 hw, decide_eq_true (by omega)]
    have : (decide (48 ≤ c0.toNat) && decide (c0.toNat ≤ 57)) = false := by
      rw [Bool.and_eq_false_iff, decide_eq_false_iff_not, decide_eq_false_iff_not]; omega
    rw [this]; rfl
  clear hR hud h0w HR
  by_cases hq : 48 ≤ c0.toNat
  all_goals
    have d1 : decide ((48 : Int) ≤ (c0.toNat : Int)) = decide (48 ≤ c0.toNat) := by rw [decide_eq_decide]; omega
    have d2 : decide ((c0.toNat : Int) ≤ 57) = decide (c0.toNat ≤ 57) := by rw [decide_eq_decide]; omega
    first | rw [decide_eq_true hq] at d1 | rw [decide_eq_false hq] at d1
    (try rw [decide_eq_false (show ¬ c0.toNat ≤ 57 by omega)] at d2)
    clear hdig hdg
    go_enter Tryz.func64, Tryz.ntmps64
    go_wp2
    go_loop [3] (fun i => ∃ k : Nat, k ≤ l.length ∧ i = .int .i64 (k : Int) ∧ (l.take k).all isWord = true) (fun i => l.length - (intOf i).toNat)
    case atStart => exact ⟨0, Nat.zero_le _, rfl, rfl⟩
    case round =>
      obtain ⟨k, hk, rfl, hP⟩ := hrel
      by_cases hlt : k < l.length
      · have hi : k < s.size := by omega
        obtain ⟨c, hc⟩ : ∃ c : UInt8, s[k]'hi = c := ⟨_, rfl⟩
        have hcl : l[k]? = some c := by rw [← HU.out, ← hc]; exact Lib.data_getElem? s k hi
        obtain ⟨hn, he⟩ := List.getElem?_eq_some_iff.1 hcl
        have hsn : (l.take (k + 1)).all isWord = isWord c := by rw [List.take_succ_eq_append_getElem hn, he, List.all_append, hP]; simp
        have h0 : (0 : Int) ≤ (k : Int) := by omega
        have h1 : (k : Int) < (s.size : Int) := by omega
        have hwi := isWord_iff c
        have hin : c ∈ l := List.mem_of_getElem? hcl
        have SN := Lib.hid hsn
        have WI := Lib.hid hwi
        have IN := Lib.hid hin
        clear hsn hP hcl he hwi hin d1 d2 hc0
        rcases Nat.lt_or_ge c.toNat 97 with q | q
        · rcases Nat.lt_or_ge c.toNat 48 with q2 | q2
          · skip
            have da : decide ((c.toNat : Int) < 97) = true := by rw [decide_eq_true_eq]; omega
            have dd : decide ((c.toNat : Int) < 48) = true := by rw [decide_eq_true_eq]; omega
            have df : ((c.toNat : Int) != 95) = true := by rw [bne_iff_ne]; omega
            go_wp2
            go_ret
            exact ⟨by rw [NO.out c IN.out (by rw [WI.out]; simp; omega)]; rfl, rfl⟩
          rcases Nat.lt_or_ge 57 c.toNat with q3 | q3
          rotate_left
          · skip
            have da : decide ((c.toNat : Int) < 97) = true := by rw [decide_eq_true_eq]; omega
            have dd : decide ((c.toNat : Int) < 48) = false := by rw [decide_eq_false_iff_not]; omega
            have de : decide ((57 : Int) < (c.toNat : Int)) = false := by rw [decide_eq_false_iff_not]; omega
            go_wp2
            go_round
            case rel => exact ⟨k + 1, by omega, by go_num, by rw [SN.out, WI.out]; simp; omega⟩
            case measure => simp [intOf]; omega
          by_cases q4 : c.toNat = 95
          · skip
            have da : decide ((c.toNat : Int) < 97) = true := by rw [decide_eq_true_eq]; omega
            have dd : decide ((c.toNat : Int) < 48) = false := by rw [decide_eq_false_iff_not]; omega
            have de : decide ((57 : Int) < (c.toNat : Int)) = true := by rw [decide_eq_true_eq]; omega
            have df : ((c.toNat : Int) != 95) = false := by rw [bne_eq_false_iff_eq]; omega
            go_wp2
            go_round
            case rel => exact ⟨k + 1, by omega, by go_num, by rw [SN.out, WI.out]; simp; omega⟩
            case measure => simp [intOf]; omega
          skip
          have da : decide ((c.toNat : Int) < 97) = true := by rw [decide_eq_true_eq]; omega
          have dd : decide ((c.toNat : Int) < 48) = false := by rw [decide_eq_false_iff_not]; omega
          have de : decide ((57 : Int) < (c.toNat : Int)) = true := by rw [decide_eq_true_eq]; omega
          have df : ((c.toNat : Int) != 95) = true := by rw [bne_iff_ne]; omega
          go_wp2
          go_ret
          exact ⟨by rw [NO.out c IN.out (by rw [WI.out]; simp; omega)]; rfl, rfl⟩
        · rcases Nat.lt_or_ge 122 c.toNat with q2 | q2
          · skip
            have da : decide ((c.toNat : Int) < 97) = false := by rw [decide_eq_false_iff_not]; omega
            have db : decide ((122 : Int) < (c.toNat : Int)) = true := by rw [decide_eq_true_eq]; omega
            have dd : decide ((c.toNat : Int) < 48) = false := by rw [decide_eq_false_iff_not]; omega
            have de : decide ((57 : Int) < (c.toNat : Int)) = true := by rw [decide_eq_true_eq]; omega
            have df : ((c.toNat : Int) != 95) = true := by rw [bne_iff_ne]; omega
            go_wp2
            go_ret
            exact ⟨by rw [NO.out c IN.out (by rw [WI.out]; simp; omega)]; rfl, rfl⟩
          skip
          have da : decide ((c.toNat : Int) < 97) = false := by rw [decide_eq_false_iff_not]; omega
          have db : decide ((122 : Int) < (c.toNat : Int)) = false := by rw [decide_eq_false_iff_not]; omega
          go_wp2
          go_round
          case rel => exact ⟨k + 1, by omega, by go_num, by rw [SN.out, WI.out]; simp; omega⟩
          case measure => simp [intOf]; omega
      · obtain rfl : k = l.length := by omega
        have h1 : ¬ (l.length : Int) < (s.size : Int) := by omega
        rw [List.take_length] at hP
        have PP := Lib.hid hP
        clear hP
        go_wp2
        go_ret
        exact ⟨by rw [YES.out PP.out]; rfl, rfl⟩
theorem rname_any (l : List UInt8) (hl : l.length ≤ 9223372036854775807) (w : World) :
    Calls Tryz.prog 64 #[.string ⟨l.toArray⟩] w fun e w' => e = .returned (.bool (nameR l)) ∧ w = w' := rname_at ⟨l.toArray⟩ l rfl hl w
attribute [local go_sem] Oper.semAt_some
/-- a label: its name, its value -/
abbrev Lab := List UInt8 × List UInt8
def Short (x : Lab) : Prop := x.1.length ≤ 200 ∧ x.2.length ≤ 200
/-- a label that is not long: what a loop's body may know of what it is handed is its type alone -/
abbrev SLab := { x : Lab // Short x }
/-- the slice value sv holds the labels zs, in a block below n₀; or it is nil and there are none -/
def Labs (n₀ : Nat) (W : World) (sv : Value) (zs : List SLab) : Prop :=
  ((∃ a c, sv = .slice a 0 c) ∧ zs = []) ∨ ∃ b off cap, sv = .slice (some ⟨b, off, none⟩) zs.length cap ∧ b < n₀ ∧ ∀ j x, zs[j]? = some x →
    W.cell? ⟨b, off + j * 2, none⟩ = some (.string ⟨x.1.1.toArray⟩) ∧ W.cell? ⟨b, off + j * 2 + 1, none⟩ = some (.string ⟨x.1.2.toArray⟩)
theorem Labs.below {n₀ : Nat} {A B : World} (h : Below n₀ A B) {sv : Value} {zs : List SLab} : Labs n₀ A sv zs → Labs n₀ B sv zs
  | .inl e => .inl e
  | .inr ⟨b, off, cap, e, hb, hc⟩ => .inr ⟨b, off, cap, e, hb, fun j x hj => ⟨(h.cell (p := ⟨b, off + j * 2, none⟩) hb).trans (hc j x hj).1, (h.cell (p := ⟨b, off + j * 2 + 1, none⟩) hb).trans (hc j x hj).2⟩⟩
def Blk (W : World) (B : Nat) (cs : Array Value) (T : TypeId) : Prop := W.heap[B]? = some (.cells cs T (0, 0))
/-- what Check says of labels, the last name having been so -/
def chk : List UInt8 → List SLab → Int
  | _, [] => 0
  | last, x :: t => if nameR x.1.1 = false then 5 else if (Op.bytesLess x.1.1 last || x.1.1 == last) = true then 6 else if valueR x.1.2 = false then 1 else chk x.1.1 t
def checkR (zs : List SLab) : Int := if 16 < zs.length then 4 else chk [] zs
def lastN (l : List UInt8) (p : List SLab) : List UInt8 := p.foldl (fun _ x => x.1.1) l
theorem lastN_snoc (l : List UInt8) (p : List SLab) (x : SLab) : lastN l (p ++ [x]) = x.1.1 := by unfold lastN; rw [List.foldl_append]; rfl
theorem chk_cons (l : List UInt8) (x : SLab) (t : List SLab) : chk l (x :: t) = if nameR x.1.1 = false then 5 else if (Op.bytesLess x.1.1 l || x.1.1 == l) = true then 6 else if valueR x.1.2 = false then 1 else chk x.1.1 t := rfl
theorem chk_app (p q : List SLab) : ∀ l, chk l p = 0 → chk l (p ++ q) = chk (lastN l p) q := by
  induction p with
  | nil => intro l _; rfl
  | cons x t ih =>
    intro l h
    rw [chk_cons] at h
    rw [List.cons_append, chk_cons]
    by_cases h1 : nameR x.1.1 = false
    · rw [if_pos h1] at h; cases h
    · rw [if_neg h1] at h ⊢
      by_cases h2 : (Op.bytesLess x.1.1 l || x.1.1 == l) = true
      · rw [if_pos h2] at h; cases h
      · rw [if_neg h2] at h ⊢
        by_cases h3 : valueR x.1.2 = false
        · rw [if_pos h3] at h; cases h
        · rw [if_neg h3] at h ⊢
          exact ih _ h
theorem chk_pre (p q : List SLab) : ∀ l, chk l p ≠ 0 → chk l (p ++ q) = chk l p := by
  induction p with
  | nil => intro l h; exact absurd rfl h
  | cons x t ih =>
    intro l h
    rw [chk_cons] at h
    rw [List.cons_append, chk_cons, chk_cons]
    by_cases h1 : nameR x.1.1 = false
    · rw [if_pos h1, if_pos h1]
    · rw [if_neg h1] at h ⊢
      rw [if_neg h1]
      by_cases h2 : (Op.bytesLess x.1.1 l || x.1.1 == l) = true
      · rw [if_pos h2, if_pos h2]
      · rw [if_neg h2] at h ⊢
        rw [if_neg h2]
        by_cases h3 : valueR x.1.2 = false
        · rw [if_pos h3, if_pos h3]
        · rw [if_neg h3] at h ⊢
          rw [if_neg h3]
          exact ih _ h
theorem blk_cell {W : World} {B j : Nat} {cs : Array Value} {t : TypeId} {v : Value} (h : Blk W B cs t) (hj : cs[j]? = some v) : W.cell? ⟨B, j, none⟩ = some v := by
  simp [World.cell?, show W.heap[B]? = _ from h, hj]
theorem Labs.len {n₀ : Nat} {W : World} {a : Option Addr} {len cap : Nat} {zs : List SLab} (h : Labs n₀ W (.slice a len cap) zs) : len = zs.length := by
  rcases h with ⟨⟨_, _, e⟩, rfl⟩ | ⟨b, off, c, e, _⟩
  · injection e
  · injection e
/-- labels of whatever length in memory -/
def LabsG (n₀ : Nat) (W : World) (sv : Value) (zs : List Lab) : Prop :=
  ((∃ a c, sv = .slice a 0 c) ∧ zs = []) ∨ ∃ b off cap, sv = .slice (some ⟨b, off, none⟩) zs.length cap ∧ b < n₀ ∧ ∀ j x, zs[j]? = some x →
    W.cell? ⟨b, off + j * 2, none⟩ = some (.string ⟨x.1.toArray⟩) ∧ W.cell? ⟨b, off + j * 2 + 1, none⟩ = some (.string ⟨x.2.toArray⟩)
theorem LabsG.below {n₀ : Nat} {A B : World} (h : Below n₀ A B) {sv : Value} {zs : List Lab} : LabsG n₀ A sv zs → LabsG n₀ B sv zs
  | .inl e => .inl e
  | .inr ⟨b, off, cap, e, hb, hc⟩ => .inr ⟨b, off, cap, e, hb, fun j x hj => ⟨(h.cell (p := ⟨b, off + j * 2, none⟩) hb).trans (hc j x hj).1, (h.cell (p := ⟨b, off + j * 2 + 1, none⟩) hb).trans (hc j x hj).2⟩⟩
theorem Labs.toG {n₀ : Nat} {W : World} {sv : Value} {zs : List SLab} : Labs n₀ W sv zs → LabsG n₀ W sv (zs.map (·.1))
  | .inl ⟨e, h⟩ => .inl ⟨e, by rw [h]; rfl⟩
  | .inr ⟨b, off, cap, e, hb, hc⟩ => .inr ⟨b, off, cap, by rw [List.length_map]; exact e, hb, fun j x hj => by
      rw [List.getElem?_map] at hj
      cases h : zs[j]? with
      | none => rw [h] at hj; cases hj
      | some y => rw [h] at hj; cases hj; exact hc j y h⟩
theorem LabsG.toS {n₀ : Nat} {W : World} {sv : Value} {zs : List SLab} : LabsG n₀ W sv (zs.map (·.1)) → Labs n₀ W sv zs
  | .inl ⟨e, h⟩ => .inl ⟨e, by simpa using h⟩
  | .inr ⟨b, off, cap, e, hb, hc⟩ => .inr ⟨b, off, cap, by rw [List.length_map] at e; exact e, hb, fun j x hj => hc j x.1 (by rw [List.getElem?_map, hj]; rfl)⟩
theorem LabsG.len {n₀ : Nat} {W : World} {a : Option Addr} {len cap : Nat} {zs : List Lab} (h : LabsG n₀ W (.slice a len cap) zs) : len = zs.length := by
  rcases h with ⟨⟨_, _, e⟩, rfl⟩ | ⟨b, off, c, e, _⟩
  · injection e
  · injection e
def fewL (x : Lab) : Bool := decide (x.1.length ≤ 100) && decide (x.2.length ≤ 200)
def fewR (zs : List Lab) : Bool := decide (zs.length ≤ 30) && zs.all fewL
theorem few_any (a : Option Addr) (len cap : Nat) (zs : List Lab) (hlen : zs.length ≤ 9223372036854775807) (hbig : ∀ x ∈ zs, x.1.length ≤ 9223372036854775807 ∧ x.2.length ≤ 9223372036854775807) (n₀ : Nat) (w : World) (hI : LabsG n₀ w (.slice a len cap) zs) :
    Calls Tryz.prog 8 #[.slice a len cap] w fun e w' => e = .returned (.bool (fewR zs)) ∧ w = w' := by
  obtain rfl : len = zs.length := hI.len
  by_cases h30 : 30 < zs.length
  · have hz : (30 : Int) < (zs.length : Int) := by omega
    have HR : Hid (fewR zs = false) := by unfold Hid fewR; rw [decide_eq_false (by omega)]; rfl
    go_enter Tryz.func8, Tryz.ntmps8
    go_wp2
    go_ret
    exact ⟨by rw [HR.out]; rfl, rfl⟩
  have hz : ¬ (30 : Int) < (zs.length : Int) := by omega
  have HR : Hid (fewR zs = zs.all fewL) := by unfold Hid fewR; rw [decide_eq_true (by omega)]; rfl
  have HI := Lib.hid hI
  have HB := Lib.hid hbig
  clear hI hbig
  go_enter Tryz.func8, Tryz.ntmps8
  go_wp2
  go_loop [3] (fun i => ∃ k : Nat, k ≤ zs.length ∧ i = .int .i64 (k : Int) ∧ (zs.take k).all fewL = true) (fun i => zs.length - (intOf i).toNat)
  case atStart => exact ⟨0, Nat.zero_le _, rfl, rfl⟩
  case round =>
    obtain ⟨k, hk, rfl, hP⟩ := hrel
    by_cases hlt : k < zs.length
    · obtain ⟨x, hx⟩ : ∃ x, zs[k]? = some x := ⟨_, List.getElem?_eq_getElem hlt⟩
      obtain ⟨hn, he⟩ := List.getElem?_eq_some_iff.1 hx
      have hsn : (zs.take (k + 1)).all fewL = fewL x := by rw [List.take_succ_eq_append_getElem hn, he, List.all_append, hP]; simp
      obtain ⟨b1, b2⟩ := HB.out x (List.mem_of_getElem? hx)
      have NO : Hid (fewL x = false → zs.all fewL = false) := fun h => by rw [List.all_eq_false]; exact ⟨x, List.mem_of_getElem? hx, by rw [h]; simp⟩
      rcases HI.out with ⟨_, rfl⟩ | ⟨b, off, c, e, hb, hc⟩
      · simp at hlt
      obtain ⟨rfl, rfl⟩ : a = some ⟨b, off, none⟩ ∧ cap = c := by simpa using e
      obtain ⟨c0, c1⟩ := hc k x hx
      obtain ⟨xn, xv⟩ := x
      dsimp only at b1 b2 c0 c1
      have h0 : (0 : Int) ≤ (k : Int) := by omega
      have h1 : (k : Int) < (zs.length : Int) := by omega
      have FL : Hid (fewL (xn, xv) = (decide (xn.length ≤ 100) && decide (xv.length ≤ 200))) := rfl
      have SN := Lib.hid hsn
      clear e hc hx hP he hsn
      by_cases q1 : xn.length ≤ 100
      · have p1 : ¬ (100 : Int) < (xn.length : Int) := by omega
        by_cases q2 : xv.length ≤ 200
        · have p2 : ¬ (200 : Int) < (xv.length : Int) := by omega
          go_wp2
          go_round
          case rel => exact ⟨k + 1, by omega, by go_num, by rw [SN.out, FL.out, decide_eq_true q1, decide_eq_true q2]; rfl⟩
          case measure => simp [intOf]; omega
        · have p2 : (200 : Int) < (xv.length : Int) := by omega
          go_wp2
          go_ret
          exact ⟨by rw [HR.out, NO.out (by rw [FL.out, decide_eq_false q2, Bool.and_false])]; rfl, rfl⟩
      · have p1 : (100 : Int) < (xn.length : Int) := by omega
        go_wp2
        go_ret
        exact ⟨by rw [HR.out, NO.out (by rw [FL.out, decide_eq_false q1]; rfl)]; rfl, rfl⟩
    · obtain rfl : k = zs.length := by omega
      rw [List.take_length] at hP
      have PP := Lib.hid hP
      clear hP
      go_wp2
      go_ret
      exact ⟨by rw [HR.out, PP.out]; rfl, rfl⟩
/-- what is few lifts to short labels -/
theorem few_short {zs : List Lab} (h : fewR zs = true) : ∃ ss : List SLab, ss.map (·.1) = zs ∧ ss.length ≤ 30 := by
  unfold fewR at h
  rw [Bool.and_eq_true, decide_eq_true_eq, List.all_eq_true] at h
  obtain ⟨hl, ha⟩ := h
  have hs : ∀ x ∈ zs, Short x := fun x hx => by
    have := ha x hx
    unfold fewL at this
    rw [Bool.and_eq_true, decide_eq_true_eq, decide_eq_true_eq] at this
    unfold Short; omega
  refine ⟨zs.attach.map fun x => ⟨x.1, hs x.1 x.2⟩, ?_, ?_⟩
  · rw [List.map_map]
    show zs.attach.map (fun x => x.1) = zs
    exact List.attach_map_subtype_val zs
  · rw [List.length_map, List.length_attach]; exact hl
/-- the cells of labels -/
def labC (zs : List SLab) : List Value := zs.flatMap fun x => [.string ⟨x.1.1.toArray⟩, .string ⟨x.1.2.toArray⟩]
theorem labC_snoc (zs : List SLab) (x : SLab) : labC (zs ++ [x]) = labC zs ++ [.string ⟨x.1.1.toArray⟩, .string ⟨x.1.2.toArray⟩] := by unfold labC; simp
theorem labC_cons (zs : List SLab) (x : SLab) : labC (x :: zs) = .string ⟨x.1.1.toArray⟩ :: .string ⟨x.1.2.toArray⟩ :: labC zs := by unfold labC; simp
theorem labC_at (zs : List SLab) : ∀ j x, zs[j]? = some x → (labC zs)[j * 2]? = some (.string ⟨x.1.1.toArray⟩) ∧ (labC zs)[j * 2 + 1]? = some (.string ⟨x.1.2.toArray⟩) := by
  induction zs with
  | nil => intro j x h; simp at h
  | cons y t ih =>
    intro j x h
    rw [labC_cons]
    cases j with
    | zero => simp at h; subst h; simp
    | succ j =>
      have := ih j x (by simpa using h)
      rw [show (j + 1) * 2 = j * 2 + 1 + 1 by omega, List.getElem?_cons_succ, List.getElem?_cons_succ, show j * 2 + 1 + 1 + 1 = j * 2 + 1 + 1 + 1 from rfl, List.getElem?_cons_succ, List.getElem?_cons_succ]
      exact this
theorem cells2_new (W : World) (u v : Value) (T : TypeId) : ∀ j x, [u, v][j]? = some x → (W.alloc (.cells #[u, v] T)).cell? ((⟨W.heap.size, 0, none⟩ : Addr).add j) = some x := by
  intro j x h
  have hb : Blk (W.alloc (.cells #[u, v] T)) W.heap.size #[u, v] T := heap_alloc_new W _
  have e : ((⟨W.heap.size, 0, none⟩ : Addr).add j) = ⟨W.heap.size, j, none⟩ := by rw [Addr.add_lit]; simp
  rw [e]
  refine blk_cell hb ?_
  rcases j with _ | _ | j
  · simpa using h
  · simpa using h
  · simp at h
theorem info_rlab : (Tryz.prog.info? 118).map (fun i => (i.zero, i.size, i.bytes)) = some (some (.agg #[.string ⟨#[]⟩, .string ⟨#[]⟩]), 2, 32) := by kernel_rfl
theorem step_append_own {P : Program} {ops : Array Oper} {o : Oper} {a : Act} {w : World} {K : Act → World → Prop} {Q : Exit → Act → World → Prop} {E : Prop}
    (hg : o.guard = none) (s x : Operand) (t : TypeId) (ho : o.op = .call { callee := .builtin .append, args := #[s, x], argTypes := #[t, t] })
    (base : Nat) (e : TypeId) (i : TypeInfo) (z : Value) (size bytes : Nat) (ht : P.underlying t = some (.slice e)) (hi : P.info? e = some i) (hz : i.zero = some z)
    (hsize : i.size = size) (hby : i.bytes = bytes) (hzs : z.cells.size = size) (hsz : 0 < size)
    (v : Value) (n : Nat) (xs : List Value) (hs : a.eval s = v) (hown : w.ownsRow base e size v n xs)
    (ad : Addr) (m c : Nat) (news : List Value) (hx : a.eval x = .slice (some ad) m c) (hl : news.length = m * size) (hnews : ∀ j u, news[j]? = some u → w.cell? (ad.add j) = some u) (h1 : ∀ u ∈ news, u.oneCell' = true)
    (h63 : n + m ≤ maxLen) (hbytes : (n + m) * bytes ≤ 140737488355328) (hbase : base ≤ w.heap.size)
    (h : ∀ v' w', w'.ownsRow base e size v' (n + m) (xs ++ news) → w.grownBy w' v.ownBlock → K (a.put o.dst v') w') :
    if Region.wanted o (yielded ops a.tmps) = true then Oper.wp P o a w K Q else E := by
  have hw : Region.wanted o (yielded ops a.tmps) = true := by simp [Region.wanted, hg]
  rw [if_pos hw]
  exact wp_append_own w s x t ho base e i z size bytes ht hi hz hsize hby hzs hsz v n xs hs hown ad m c news hx hl hnews h1 h63 hbytes hbase (fun v' w' a b _ => h v' w' a b)
/-- labels of the reference's type in memory of the call's own -/
def NewR (w : World) (zs : List SLab) (e : Ending) (w' : World) : Prop := ∃ v, e = .returned v ∧ w'.ownsRow w.heap.size 118 2 v zs.length (labC zs) ∧ Below w.heap.size w w'
set_option maxHeartbeats 4000000 in
theorem of_any (a : Option Addr) (len cap : Nat) (zs : List SLab) (hlen : zs.length ≤ 100) (w : World) (hI : Labs w.heap.size w (.slice a len cap) zs) :
    Calls Tryz.prog 23 #[.slice a len cap] w (NewR w zs) := by
  obtain ⟨i0, hi, hz0, hz1, hz2⟩ := info_parts info_rlab
  have HI0 := Lib.hid hi
  have HZ := Lib.hid hz0
  have HZ1 := Lib.hid hz1
  have HZ2 := Lib.hid hz2
  clear hi hz0 hz1 hz2
  obtain rfl : len = zs.length := hI.len
  have HI := Lib.hid hI
  clear hI
  go_enter Tryz.func23, Tryz.ntmps23
  go_wp2
  go_loopw [3, 4] (fun v i wr => ∃ k : Nat, k ≤ zs.length ∧ i = .int .i64 (k : Int) ∧ wr.ownsRow w.heap.size 118 2 v k (labC (zs.take k)) ∧ Below w.heap.size w wr) (fun _ i _ => zs.length - (intOf i).toNat)
  case atStart => exact ⟨0, Nat.zero_le _, rfl, World.ownsRow_nil _ _ _ _, Below.refl _ _⟩
  case round =>
    obtain ⟨k, hk, rfl, hO, hB⟩ := hrel
    by_cases hlt : k < zs.length
    · obtain ⟨x, hx⟩ : ∃ x, zs[k]? = some x := ⟨_, List.getElem?_eq_getElem hlt⟩
      obtain ⟨hn, he⟩ := List.getElem?_eq_some_iff.1 hx
      have hsn : labC (zs.take (k + 1)) = labC (zs.take k) ++ [.string ⟨x.1.1.toArray⟩, .string ⟨x.1.2.toArray⟩] := by rw [List.take_succ_eq_append_getElem hn, he, labC_snoc]
      rcases HI.out.below hB with ⟨_, rfl⟩ | ⟨b, off, c, e, hb, hc⟩
      · simp at hlt
      obtain ⟨rfl, rfl⟩ : a = some ⟨b, off, none⟩ ∧ cap = c := by simpa using e
      obtain ⟨c0, c1⟩ := hc k x hx
      obtain ⟨⟨xn, xv⟩, hx0⟩ := x
      dsimp only at hsn c0 c1
      have h0 : (0 : Int) ≤ (k : Int) := by omega
      have h1 : (k : Int) < (zs.length : Int) := by omega
      have SN := Lib.hid hsn
      have HO := Lib.hid hO
      clear e hc hx he hsn hO
      go_wp2
      go_region_law (refine step_append_own rfl _ _ 37 rfl w.heap.size 118 i0 (.agg #[.string ⟨#[]⟩, .string ⟨#[]⟩]) 2 32 Tryz.underlying37 HI0.out HZ.out HZ1.out HZ2.out rfl (by decide) _ k _ (by simp [Act.eval, Act.put]) (HO.out.drew.alloc _) ⟨wr.heap.size, 0, none⟩ 1 1 [.string ⟨xn.toArray⟩, .string ⟨xv.toArray⟩] (by simp [Act.eval, Act.put]) rfl (cells2_new _ _ _ _) (by intro u hu; simp at hu; rcases hu with rfl | rfl <;> rfl) (by unfold maxLen; omega) (by omega) (by have := hB.size; simp; omega) ?_; intro v' w1 hown' hgrow)
      all_goals
        have hB2 : Below w.heap.size w w1 := ((hB.alloc hB.size _).drew).grown hgrow (by have := hB.size; simp; omega) (fun q eq => by
          rcases HO.out.2 with ⟨rfl, _⟩ | ⟨g, cp, cur, rfl, hbg, _⟩
          · simp [Value.ownBlock] at eq
          · obtain rfl : g = q := by simpa [Value.ownBlock] using eq
            exact hbg)
        have HO2 := Lib.hid hown'
        clear hown' hgrow
        go_wp2
        go_roundw
        case rel => exact ⟨k + 1, by omega, by go_num, by rw [SN.out]; exact HO2.out, hB2⟩
        case measure => simp [intOf]; omega
    · obtain rfl : k = zs.length := by omega
      rw [List.take_length] at hO
      have HO := Lib.hid hO
      clear hO
      go_wp2
      go_ret
      exact ⟨_, rfl, HO.out, hB⟩
theorem bl_tot : ∀ x y : List UInt8, (Op.bytesLess x y || x == y) = !Op.bytesLess y x
  | [], [] => rfl
  | [], _ :: _ => rfl
  | _ :: _, [] => rfl
  | a :: x, b :: y => by
    have ih := bl_tot x y
    show (decide (a < b) || (a == b && Op.bytesLess x y) || (a :: x == b :: y)) = !(decide (b < a) || (b == a && Op.bytesLess y x))
    rcases Nat.lt_trichotomy a.toNat b.toNat with h | h | h
    · have h1 : a < b := h
      have h2 : ¬ b < a := fun h' => by have : b.toNat < a.toNat := h'; omega
      have h3 : (b == a) = false := by rw [beq_eq_false_iff_ne]; rintro rfl; omega
      simp [h1, h2, h3]
    · obtain rfl : a = b := UInt8.toNat.inj h
      have h2 : ¬ a < a := fun h' => by have : a.toNat < a.toNat := h'; omega
      have e : (a :: x == a :: y) = (x == y) := by simp
      rw [e]
      simp only [h2, decide_false, Bool.false_or, beq_self_eq_true, Bool.true_and]
      exact ih
    · have h1 : b < a := h
      have h2 : ¬ a < b := fun h' => by have : a.toNat < b.toNat := h'; omega
      have h3 : (a == b) = false := by rw [beq_eq_false_iff_ne]; rintro rfl; omega
      have e : (a :: x == b :: y) = false := by rw [beq_eq_false_iff_ne]; intro e'; injection e' with e1; subst e1; omega
      rw [e, h3]
      simp [h1, h2]
theorem labs_of_row9 {W : World} {base e : Nat} {v : Value} {zs : List SLab} (h : W.ownsRow base e 2 v zs.length (labC zs)) : Labs W.heap.size W v zs := by
  obtain ⟨_, ⟨rfl, h0⟩ | ⟨g, cap, cur, rfl, hb, hg, hnc, hcm, hcs, ht⟩⟩ := h
  · exact .inl ⟨⟨_, _, rfl⟩, List.eq_nil_of_length_eq_zero h0⟩
  · refine .inr ⟨g, 0, cap, rfl, (Array.getElem?_eq_some_iff.1 hg).1, fun j x hj => ?_⟩
    obtain ⟨c1, c2⟩ := labC_at zs j x hj
    have hjl : j < zs.length := (List.getElem?_eq_some_iff.1 hj).1
    rw [← ht, List.getElem?_take] at c1 c2
    rw [if_pos (by omega)] at c1 c2
    constructor
    · show (match W.heap[g]? with | some (.cells c _ _) => c[0 + j * 2]? | _ => none) = _
      rw [hg]; simpa using c1
    · show (match W.heap[g]? with | some (.cells c _ _) => c[0 + j * 2 + 1]? | _ => none) = _
      rw [hg]; simpa using c2
theorem last_at (zs : List SLab) (k : Nat) (y : SLab) (h : zs[k]? = some y) : lastN [] (zs.take (k + 1)) = y.1.1 := by
  obtain ⟨hn, he⟩ := List.getElem?_eq_some_iff.1 h
  rw [List.take_succ_eq_append_getElem hn, he, lastN_snoc]
theorem below_dN {B : Nat} {w v : World} (h : Below B w v) (q : Nat) : Below B w (v.drewN q) := ⟨h.os, h.tape, h.output, h.size, h.block⟩
set_option maxHeartbeats 4000000 in
theorem rcheck_any (a : Option Addr) (len cap : Nat) (zs : List SLab) (hlen : zs.length ≤ 100) (w : World) (hI : Labs w.heap.size w (.slice a len cap) zs) :
    Calls Tryz.prog 31 #[.slice a len cap] w fun e w' => e = .returned (.int .i64 (checkR zs)) ∧ Below w.heap.size w w' := by
  obtain rfl : len = zs.length := hI.len
  by_cases h16 : 16 < zs.length
  · have hR : Hid (checkR zs = 4) := by unfold Hid checkR; rw [if_pos h16]
    have hz : (16 : Int) < (zs.length : Int) := by omega
    go_enter Tryz.func31, Tryz.ntmps31
    go_wp2
    go_ret
    exact ⟨by rw [hR.out]; rfl, Below.refl _ _⟩
  have hR : Hid (checkR zs = chk [] zs) := by unfold Hid checkR; rw [if_neg h16]
  have hz : ¬ (16 : Int) < (zs.length : Int) := by omega
  have HI := Lib.hid hI
  clear hI
  go_enter Tryz.func31, Tryz.ntmps31
  go_wp2
  go_loopw [3] (fun i wr => ∃ k : Nat, k ≤ zs.length ∧ i = .int .i64 (k : Int) ∧ chk [] (zs.take k) = 0 ∧ Below w.heap.size w wr) (fun i _ => zs.length - (intOf i).toNat)
  case atStart => exact ⟨0, Nat.zero_le _, rfl, rfl, Below.refl _ _⟩
  case round =>
    obtain ⟨k, hk, rfl, hP, hBw⟩ := hrel
    by_cases hlt : k < zs.length
    · obtain ⟨x, hx⟩ : ∃ x, zs[k]? = some x := ⟨_, List.getElem?_eq_getElem hlt⟩
      obtain ⟨hn, he⟩ := List.getElem?_eq_some_iff.1 hx
      have hcc : chk [] (zs.take (k + 1)) = chk (lastN [] (zs.take k)) [x] := by rw [List.take_succ_eq_append_getElem hn, he, chk_app _ _ _ hP]
      rw [chk_cons] at hcc
      have hrest : ∀ c, chk [] (zs.take (k + 1)) = c → c ≠ 0 → chk [] zs = c := fun c h h0 => by
        conv => lhs; rw [← List.take_append_drop (k + 1) zs]
        rw [chk_pre _ _ _ (by rw [h]; exact h0), h]
      rcases HI.out.below hBw with ⟨_, rfl⟩ | ⟨b, off, c, e, hb, hc⟩
      · simp at hlt
      obtain ⟨rfl, rfl⟩ : a = some ⟨b, off, none⟩ ∧ cap = c := by simpa using e
      obtain ⟨c0, c1⟩ := hc k x hx
      obtain ⟨⟨xn, xv⟩, hx0⟩ := x
      dsimp only at hcc c0 c1
      have h0 : (0 : Int) ≤ (k : Int) := by omega
      have h1 : (k : Int) < (zs.length : Int) := by omega
      have NM := Lib.hid (fun W => rname_any xn (by have := hx0.1; dsimp only at this; omega) W)
      have VL := Lib.hid (fun W => rvalue_any xv (by have := hx0.2; dsimp only at this; omega) W)
      have CC := Lib.hid hcc
      have RST := Lib.hid hrest
      have HC := Lib.hid hc
      clear e hx he hcc hrest hP hc
      cases hnm : nameR xn
      · rw [hnm] at NM CC
        go_wp2_with fail
        refine (NM.out _).mono ?_
        rintro e w1 ⟨rfl, rfl⟩
        go_wp2
        go_ret
        exact ⟨by rw [hR.out, RST.out 5 (by rw [CC.out]; rfl) (by decide)]; rfl, hBw⟩
      · rw [hnm] at NM CC
        by_cases hk0 : k = 0
        · have d0 : decide ((0 : Int) < (k : Int)) = false := by rw [decide_eq_false_iff_not]; omega
          have d1 : decide (0 < k) = false := by rw [decide_eq_false_iff_not]; omega
          have hl : lastN [] (zs.take k) = [] := by rw [hk0]; rfl
          have hx1 : Op.bytesLess xn [] = false ∧ (xn == ([] : List UInt8)) = false := by
            cases xn with
            | nil => cases hnm
            | cons _ _ => exact ⟨rfl, rfl⟩
          have C2 : Hid (chk [] (zs.take (k + 1)) = if valueR xv = false then 1 else 0) := by unfold Hid; rw [CC.out, if_neg (by simp), hl, hx1.1, hx1.2]; rfl
          clear CC hl hx1 hk0
          go_wp2_with fail
          refine (NM.out _).mono ?_
          rintro e w1 ⟨rfl, rfl⟩
          go_wp2
          go_quiet (fail)
          have hB2 : Below w.heap.size w (wr.drewN nq) := below_dN hBw nq
          cases hvl : valueR xv
          · rw [hvl] at VL C2
            go_wp2_with fail
            refine (VL.out _).mono ?_
            rintro e w1 ⟨rfl, rfl⟩
            go_wp2
            go_ret
            exact ⟨by rw [hR.out, RST.out 1 (by rw [C2.out]; rfl) (by decide)]; rfl, hB2⟩
          · rw [hvl] at VL C2
            go_wp2_with fail
            refine (VL.out _).mono ?_
            rintro e w1 ⟨rfl, rfl⟩
            go_wp2
            go_roundw
            case rel => exact ⟨k + 1, by omega, by go_num, by rw [C2.out]; rfl, hB2⟩
            case measure => simp [intOf]; omega
        · have d0 : decide ((0 : Int) < (k : Int)) = true := by rw [decide_eq_true_eq]; omega
          have d1 : decide (0 < k) = true := by rw [decide_eq_true_eq]; omega
          obtain ⟨y, hy⟩ : ∃ y, zs[k - 1]? = some y := ⟨_, List.getElem?_eq_getElem (by omega)⟩
          have hl := last_at zs (k - 1) y hy
          rw [show k - 1 + 1 = k by omega] at hl
          obtain ⟨y0, _⟩ := HC.out (k - 1) y hy
          have q1 : (0 : Int) ≤ (k : Int) - 1 := by omega
          have q2 : (k : Int) - 1 < (zs.length : Int) := by omega
          have q3 : ((k : Int) - 1).toNat = k - 1 := by omega
          obtain ⟨⟨yn, yv⟩, hy1⟩ := y
          dsimp only at hl y0
          have C2 : Hid (chk [] (zs.take (k + 1)) = if (Op.bytesLess xn yn || xn == yn) = true then 6 else if valueR xv = false then 1 else 0) := by unfold Hid; rw [CC.out, if_neg (by simp), hl]; rfl
          clear CC hl hy hk0
          rw [bl_tot] at C2
          cases hbl : Op.bytesLess yn xn
          · rw [hbl] at C2
            go_wp2_with fail
            refine (NM.out _).mono ?_
            rintro e w1 ⟨rfl, rfl⟩
            go_wp2
            go_quiet (fail)
            have hB2 : Below w.heap.size w (wr.drewN nq) := below_dN hBw nq
            go_wp2
            go_ret
            exact ⟨by rw [hR.out, RST.out 6 (by rw [C2.out]; rfl) (by decide)]; rfl, hB2⟩
          · rw [hbl] at C2
            go_wp2_with fail
            refine (NM.out _).mono ?_
            rintro e w1 ⟨rfl, rfl⟩
            go_wp2
            go_quiet (fail)
            have hB2 : Below w.heap.size w (wr.drewN nq) := below_dN hBw nq
            cases hvl : valueR xv
            · rw [hvl] at VL C2
              go_wp2_with fail
              refine (VL.out _).mono ?_
              rintro e w1 ⟨rfl, rfl⟩
              go_wp2
              go_ret
              exact ⟨by rw [hR.out, RST.out 1 (by rw [C2.out]; rfl) (by decide)]; rfl, hB2⟩
            · rw [hvl] at VL C2
              go_wp2_with fail
              refine (VL.out _).mono ?_
              rintro e w1 ⟨rfl, rfl⟩
              go_wp2
              go_roundw
              case rel => exact ⟨k + 1, by omega, by go_num, by rw [C2.out]; rfl, hB2⟩
              case measure => simp [intOf]; omega
    · obtain rfl : k = zs.length := by omega
      rw [List.take_length] at hP
      have PP := Lib.hid hP
      clear hP
      go_wp2
      go_ret
      exact ⟨by rw [hR.out, PP.out]; rfl, hBw⟩
def sampV (sl : Value) (va tm sr sq : Int) : Value := .agg #[sl, .int .i64 va, .int .i64 tm, .int .i64 sr, .int .i64 sq]
theorem labs_on {w w1 : World} {v : Value} {zs : List SLab} (h : Labs w.heap.size w v zs) (hb : Below w.heap.size w w1) : Labs w1.heap.size w1 v zs := by
  rcases h.below hb with e | ⟨b, off, cap, e, h1, h2⟩
  · exact .inl e
  · exact .inr ⟨b, off, cap, e, Nat.lt_of_lt_of_le h1 hb.size, h2⟩
/-- what is said of a time -/
def timeR (t : Int) : Int := if t < 0 ∨ 4398046511104 < t then 1 else 0
/-- what is said of a sample -/
def sampR (zs : List SLab) (tm sr sq : Int) : Int := if checkR zs ≠ 0 then checkR zs else if zs.length = 0 then 5 else if timeR tm ≠ 0 then timeR tm else if sr < 1 ∨ 16 < sr ∨ sq < 1 ∨ 9007199254740992 < sq then 1 else 0
theorem blk_on {w w1 : World} {b : Nat} {cs : Array Value} {T : TypeId} (h : Blk w b cs T) (hb : Below w.heap.size w w1) : Blk w1 b cs T := (hb.block b (Array.getElem?_eq_some_iff.1 h).1).trans h
theorem blk_at {w : World} {b : Nat} {cs : Array Value} {T : TypeId} (h : Blk w b cs T) : At w b cs.toList := At.of_block h
theorem blk_new (w : World) (cs : Array Value) (T : TypeId) : Blk (w.alloc (.cells cs T)) w.heap.size cs T := heap_alloc_new w _
theorem rtime_any (t : Int) (w : World) : Calls Tryz.prog 32 #[.int .i64 t] w fun e w' => e = .returned (.int .i64 (timeR t)) ∧ Below w.heap.size w w' := by
  unfold timeR
  by_cases h1 : t < 0
  · rw [if_pos (.inl h1)]
    go_enter Tryz.func32, Tryz.ntmps32
    go_wp2
    go_ret
    exact ⟨rfl, Below.refl _ _⟩
  · by_cases h2 : 4398046511104 < t
    · rw [if_pos (.inr h2)]
      go_enter Tryz.func32, Tryz.ntmps32
      go_wp2
      go_ret
      exact ⟨rfl, Below.refl _ _⟩
    · rw [if_neg (by omega)]
      go_enter Tryz.func32, Tryz.ntmps32
      go_wp2
      go_ret
      exact ⟨rfl, Below.refl _ _⟩
set_option maxHeartbeats 4000000 in
theorem rsamp_bad (a : Option Addr) (n cap : Nat) (zs : List SLab) (hreach : zs.length ≤ 100) (va tm sr sq : Int) (w : World) (hI : Labs w.heap.size w (.slice a n cap) zs) (hc : checkR zs ≠ 0) :
    Calls Tryz.prog 9 #[.agg #[.slice a n cap, .int .i64 va, .int .i64 tm, .int .i64 sr, .int .i64 sq]] w fun e w' => e = .returned (.int .i64 (checkR zs)) ∧ Below w.heap.size w w' := by
  obtain rfl : n = zs.length := hI.len
  have CK := Lib.hid (fun W (hW : Below w.heap.size w W) => rcheck_any a zs.length cap zs hreach W (labs_on hI hW))
  have TM := Lib.hid (fun W => rtime_any tm W)
  generalize checkR zs = c at *
  clear hI
  go_enter Tryz.func9, Tryz.ntmps9
  have A1 := blk_new w #[.slice a zs.length cap, .int .i64 va, .int .i64 tm, .int .i64 sr, .int .i64 sq] 39
  have B1 := below_cells (w := w) (.cells #[.slice a zs.length cap, .int .i64 va, .int .i64 tm, .int .i64 sr, .int .i64 sq] 39)
  have p0 := (blk_at A1).cell 0 _ rfl
  have p1 := (blk_at A1).cell 1 _ rfl
  have p2 := (blk_at A1).cell 2 _ rfl
  have p3 := (blk_at A1).cell 3 _ rfl
  have p4 := (blk_at A1).cell 4 _ rfl
  go_wp2_with fail
  refine (CK.out _ B1).mono ?_
  rintro e u0 ⟨rfl, hb⟩
  have E1 := blk_on A1 hb
  have C1 := B1.trans (hb.mono B1.size)
  clear A1 B1 hb p0 p1 p2 p3 p4
  have A1 := E1
  have B1 := C1
  clear E1 C1
  have p0 := (blk_at A1).cell 0 _ rfl
  have p1 := (blk_at A1).cell 1 _ rfl
  have p2 := (blk_at A1).cell 2 _ rfl
  have p3 := (blk_at A1).cell 3 _ rfl
  have p4 := (blk_at A1).cell 4 _ rfl
  go_wp2
  go_ret
  exact ⟨rfl, B1⟩
set_option maxHeartbeats 4000000 in
theorem rsamp_none (a : Option Addr) (n cap : Nat) (zs : List SLab) (hreach : zs.length ≤ 100) (va tm sr sq : Int) (w : World) (hI : Labs w.heap.size w (.slice a n cap) zs) (hc : checkR zs = 0) (hz : zs.length = 0) :
    Calls Tryz.prog 9 #[.agg #[.slice a n cap, .int .i64 va, .int .i64 tm, .int .i64 sr, .int .i64 sq]] w fun e w' => e = .returned (.int .i64 5) ∧ Below w.heap.size w w' := by
  obtain rfl : n = zs.length := hI.len
  have CK := Lib.hid (fun W (hW : Below w.heap.size w W) => rcheck_any a zs.length cap zs hreach W (labs_on hI hW))
  have TM := Lib.hid (fun W => rtime_any tm W)
  rw [hc] at CK
  clear hc hI
  clear TM
  obtain rfl := List.eq_nil_of_length_eq_zero hz
  simp only [List.length_nil] at CK
  clear hz
  show Calls _ _ #[.agg #[.slice a 0 cap, .int .i64 va, .int .i64 tm, .int .i64 sr, .int .i64 sq]] _ _
  go_enter Tryz.func9, Tryz.ntmps9
  have A1 := blk_new w #[.slice a 0 cap, .int .i64 va, .int .i64 tm, .int .i64 sr, .int .i64 sq] 39
  have B1 := below_cells (w := w) (.cells #[.slice a 0 cap, .int .i64 va, .int .i64 tm, .int .i64 sr, .int .i64 sq] 39)
  have p0 := (blk_at A1).cell 0 _ rfl
  have p1 := (blk_at A1).cell 1 _ rfl
  have p2 := (blk_at A1).cell 2 _ rfl
  have p3 := (blk_at A1).cell 3 _ rfl
  have p4 := (blk_at A1).cell 4 _ rfl
  go_wp2_with fail
  refine (CK.out _ B1).mono ?_
  rintro e u0 ⟨rfl, hb⟩
  have E1 := blk_on A1 hb
  have C1 := B1.trans (hb.mono B1.size)
  clear A1 B1 hb p0 p1 p2 p3 p4
  have A1 := E1
  have B1 := C1
  clear E1 C1
  have p0 := (blk_at A1).cell 0 _ rfl
  have p1 := (blk_at A1).cell 1 _ rfl
  have p2 := (blk_at A1).cell 2 _ rfl
  have p3 := (blk_at A1).cell 3 _ rfl
  have p4 := (blk_at A1).cell 4 _ rfl
  go_wp2
  go_ret
  exact ⟨rfl, B1⟩
set_option maxHeartbeats 4000000 in
theorem rsamp_late (a : Option Addr) (n cap : Nat) (zs : List SLab) (hreach : zs.length ≤ 100) (va tm sr sq : Int) (w : World) (hI : Labs w.heap.size w (.slice a n cap) zs) (hc : checkR zs = 0) (hz : zs.length ≠ 0) (ht : timeR tm ≠ 0) :
    Calls Tryz.prog 9 #[.agg #[.slice a n cap, .int .i64 va, .int .i64 tm, .int .i64 sr, .int .i64 sq]] w fun e w' => e = .returned (.int .i64 1) ∧ Below w.heap.size w w' := by
  obtain rfl : n = zs.length := hI.len
  have CK := Lib.hid (fun W (hW : Below w.heap.size w W) => rcheck_any a zs.length cap zs hreach W (labs_on hI hW))
  have TM := Lib.hid (fun W => rtime_any tm W)
  rw [hc] at CK
  clear hc hI
  have hz2 : ((zs.length : Int) == 0) = false := by rw [beq_eq_false_iff_ne]; omega
  generalize timeR tm = c at *
  go_enter Tryz.func9, Tryz.ntmps9
  have A1 := blk_new w #[.slice a zs.length cap, .int .i64 va, .int .i64 tm, .int .i64 sr, .int .i64 sq] 39
  have B1 := below_cells (w := w) (.cells #[.slice a zs.length cap, .int .i64 va, .int .i64 tm, .int .i64 sr, .int .i64 sq] 39)
  have p0 := (blk_at A1).cell 0 _ rfl
  have p1 := (blk_at A1).cell 1 _ rfl
  have p2 := (blk_at A1).cell 2 _ rfl
  have p3 := (blk_at A1).cell 3 _ rfl
  have p4 := (blk_at A1).cell 4 _ rfl
  go_wp2_with fail
  refine (CK.out _ B1).mono ?_
  rintro e u0 ⟨rfl, hb⟩
  have E1 := blk_on A1 hb
  have C1 := B1.trans (hb.mono B1.size)
  clear A1 B1 hb p0 p1 p2 p3 p4
  have A1 := E1
  have B1 := C1
  clear E1 C1
  have p0 := (blk_at A1).cell 0 _ rfl
  have p1 := (blk_at A1).cell 1 _ rfl
  have p2 := (blk_at A1).cell 2 _ rfl
  have p3 := (blk_at A1).cell 3 _ rfl
  have p4 := (blk_at A1).cell 4 _ rfl
  go_wp2_with fail
  refine (TM.out _).mono ?_
  rintro e u1 ⟨rfl, hb⟩
  have E1 := blk_on A1 hb
  have C1 := B1.trans (hb.mono B1.size)
  clear A1 B1 hb p0 p1 p2 p3 p4
  have A1 := E1
  have B1 := C1
  clear E1 C1
  have p0 := (blk_at A1).cell 0 _ rfl
  have p1 := (blk_at A1).cell 1 _ rfl
  have p2 := (blk_at A1).cell 2 _ rfl
  have p3 := (blk_at A1).cell 3 _ rfl
  have p4 := (blk_at A1).cell 4 _ rfl
  go_wp2
  go_ret
  exact ⟨rfl, B1⟩
set_option maxHeartbeats 4000000 in
theorem rsamp_s0 (a : Option Addr) (n cap : Nat) (zs : List SLab) (hreach : zs.length ≤ 100) (va tm sr sq : Int) (w : World) (hI : Labs w.heap.size w (.slice a n cap) zs) (hc : checkR zs = 0) (hz : zs.length ≠ 0) (ht : timeR tm = 0) (h1 : sr < 1) :
    Calls Tryz.prog 9 #[.agg #[.slice a n cap, .int .i64 va, .int .i64 tm, .int .i64 sr, .int .i64 sq]] w fun e w' => e = .returned (.int .i64 1) ∧ Below w.heap.size w w' := by
  obtain rfl : n = zs.length := hI.len
  have CK := Lib.hid (fun W (hW : Below w.heap.size w W) => rcheck_any a zs.length cap zs hreach W (labs_on hI hW))
  have TM := Lib.hid (fun W => rtime_any tm W)
  rw [hc] at CK
  clear hc hI
  have hz2 : ((zs.length : Int) == 0) = false := by rw [beq_eq_false_iff_ne]; omega
  rw [ht] at TM
  clear ht
  go_enter Tryz.func9, Tryz.ntmps9
  have A1 := blk_new w #[.slice a zs.length cap, .int .i64 va, .int .i64 tm, .int .i64 sr, .int .i64 sq] 39
  have B1 := below_cells (w := w) (.cells #[.slice a zs.length cap, .int .i64 va, .int .i64 tm, .int .i64 sr, .int .i64 sq] 39)
  have p0 := (blk_at A1).cell 0 _ rfl
  have p1 := (blk_at A1).cell 1 _ rfl
  have p2 := (blk_at A1).cell 2 _ rfl
  have p3 := (blk_at A1).cell 3 _ rfl
  have p4 := (blk_at A1).cell 4 _ rfl
  go_wp2_with fail
  refine (CK.out _ B1).mono ?_
  rintro e u0 ⟨rfl, hb⟩
  have E1 := blk_on A1 hb
  have C1 := B1.trans (hb.mono B1.size)
  clear A1 B1 hb p0 p1 p2 p3 p4
  have A1 := E1
  have B1 := C1
  clear E1 C1
  have p0 := (blk_at A1).cell 0 _ rfl
  have p1 := (blk_at A1).cell 1 _ rfl
  have p2 := (blk_at A1).cell 2 _ rfl
  have p3 := (blk_at A1).cell 3 _ rfl
  have p4 := (blk_at A1).cell 4 _ rfl
  go_wp2_with fail
  refine (TM.out _).mono ?_
  rintro e u1 ⟨rfl, hb⟩
  have E1 := blk_on A1 hb
  have C1 := B1.trans (hb.mono B1.size)
  clear A1 B1 hb p0 p1 p2 p3 p4
  have A1 := E1
  have B1 := C1
  clear E1 C1
  have p0 := (blk_at A1).cell 0 _ rfl
  have p1 := (blk_at A1).cell 1 _ rfl
  have p2 := (blk_at A1).cell 2 _ rfl
  have p3 := (blk_at A1).cell 3 _ rfl
  have p4 := (blk_at A1).cell 4 _ rfl
  go_wp2
  go_ret
  exact ⟨rfl, B1⟩
set_option maxHeartbeats 4000000 in
theorem rsamp_s1 (a : Option Addr) (n cap : Nat) (zs : List SLab) (hreach : zs.length ≤ 100) (va tm sr sq : Int) (w : World) (hI : Labs w.heap.size w (.slice a n cap) zs) (hc : checkR zs = 0) (hz : zs.length ≠ 0) (ht : timeR tm = 0) (h1 : ¬ sr < 1) (h2 : 16 < sr) :
    Calls Tryz.prog 9 #[.agg #[.slice a n cap, .int .i64 va, .int .i64 tm, .int .i64 sr, .int .i64 sq]] w fun e w' => e = .returned (.int .i64 1) ∧ Below w.heap.size w w' := by
  obtain rfl : n = zs.length := hI.len
  have CK := Lib.hid (fun W (hW : Below w.heap.size w W) => rcheck_any a zs.length cap zs hreach W (labs_on hI hW))
  have TM := Lib.hid (fun W => rtime_any tm W)
  rw [hc] at CK
  clear hc hI
  have hz2 : ((zs.length : Int) == 0) = false := by rw [beq_eq_false_iff_ne]; omega
  rw [ht] at TM
  clear ht
  go_enter Tryz.func9, Tryz.ntmps9
  have A1 := blk_new w #[.slice a zs.length cap, .int .i64 va, .int .i64 tm, .int .i64 sr, .int .i64 sq] 39
  have B1 := below_cells (w := w) (.cells #[.slice a zs.length cap, .int .i64 va, .int .i64 tm, .int .i64 sr, .int .i64 sq] 39)
  have p0 := (blk_at A1).cell 0 _ rfl
  have p1 := (blk_at A1).cell 1 _ rfl
  have p2 := (blk_at A1).cell 2 _ rfl
  have p3 := (blk_at A1).cell 3 _ rfl
  have p4 := (blk_at A1).cell 4 _ rfl
  go_wp2_with fail
  refine (CK.out _ B1).mono ?_
  rintro e u0 ⟨rfl, hb⟩
  have E1 := blk_on A1 hb
  have C1 := B1.trans (hb.mono B1.size)
  clear A1 B1 hb p0 p1 p2 p3 p4
  have A1 := E1
  have B1 := C1
  clear E1 C1
  have p0 := (blk_at A1).cell 0 _ rfl
  have p1 := (blk_at A1).cell 1 _ rfl
  have p2 := (blk_at A1).cell 2 _ rfl
  have p3 := (blk_at A1).cell 3 _ rfl
  have p4 := (blk_at A1).cell 4 _ rfl
  go_wp2_with fail
  refine (TM.out _).mono ?_
  rintro e u1 ⟨rfl, hb⟩
  have E1 := blk_on A1 hb
  have C1 := B1.trans (hb.mono B1.size)
  clear A1 B1 hb p0 p1 p2 p3 p4
  have A1 := E1
  have B1 := C1
  clear E1 C1
  have p0 := (blk_at A1).cell 0 _ rfl
  have p1 := (blk_at A1).cell 1 _ rfl
  have p2 := (blk_at A1).cell 2 _ rfl
  have p3 := (blk_at A1).cell 3 _ rfl
  have p4 := (blk_at A1).cell 4 _ rfl
  go_wp2
  go_ret
  exact ⟨rfl, B1⟩
set_option maxHeartbeats 4000000 in
theorem rsamp_q0 (a : Option Addr) (n cap : Nat) (zs : List SLab) (hreach : zs.length ≤ 100) (va tm sr sq : Int) (w : World) (hI : Labs w.heap.size w (.slice a n cap) zs) (hc : checkR zs = 0) (hz : zs.length ≠ 0) (ht : timeR tm = 0) (h1 : ¬ sr < 1) (h2 : ¬ 16 < sr) (h3 : sq < 1) :
    Calls Tryz.prog 9 #[.agg #[.slice a n cap, .int .i64 va, .int .i64 tm, .int .i64 sr, .int .i64 sq]] w fun e w' => e = .returned (.int .i64 1) ∧ Below w.heap.size w w' := by
  obtain rfl : n = zs.length := hI.len
  have CK := Lib.hid (fun W (hW : Below w.heap.size w W) => rcheck_any a zs.length cap zs hreach W (labs_on hI hW))
  have TM := Lib.hid (fun W => rtime_any tm W)
  rw [hc] at CK
  clear hc hI
  have hz2 : ((zs.length : Int) == 0) = false := by rw [beq_eq_false_iff_ne]; omega
  rw [ht] at TM
  clear ht
  go_enter Tryz.func9, Tryz.ntmps9
  have A1 := blk_new w #[.slice a zs.length cap, .int .i64 va, .int .i64 tm, .int .i64 sr, .int .i64 sq] 39
  have B1 := below_cells (w := w) (.cells #[.slice a zs.length cap, .int .i64 va, .int .i64 tm, .int .i64 sr, .int .i64 sq] 39)
  have p0 := (blk_at A1).cell 0 _ rfl
  have p1 := (blk_at A1).cell 1 _ rfl
  have p2 := (blk_at A1).cell 2 _ rfl
  have p3 := (blk_at A1).cell 3 _ rfl
  have p4 := (blk_at A1).cell 4 _ rfl
  go_wp2_with fail
  refine (CK.out _ B1).mono ?_
  rintro e u0 ⟨rfl, hb⟩
  have E1 := blk_on A1 hb
  have C1 := B1.trans (hb.mono B1.size)
  clear A1 B1 hb p0 p1 p2 p3 p4
  have A1 := E1
  have B1 := C1
  clear E1 C1
  have p0 := (blk_at A1).cell 0 _ rfl
  have p1 := (blk_at A1).cell 1 _ rfl
  have p2 := (blk_at A1).cell 2 _ rfl
  have p3 := (blk_at A1).cell 3 _ rfl
  have p4 := (blk_at A1).cell 4 _ rfl
  go_wp2_with fail
  refine (TM.out _).mono ?_
  rintro e u1 ⟨rfl, hb⟩
  have E1 := blk_on A1 hb
  have C1 := B1.trans (hb.mono B1.size)
  clear A1 B1 hb p0 p1 p2 p3 p4
  have A1 := E1
  have B1 := C1
  clear E1 C1
  have p0 := (blk_at A1).cell 0 _ rfl
  have p1 := (blk_at A1).cell 1 _ rfl
  have p2 := (blk_at A1).cell 2 _ rfl
  have p3 := (blk_at A1).cell 3 _ rfl
  have p4 := (blk_at A1).cell 4 _ rfl
  go_wp2
  go_ret
  exact ⟨rfl, B1⟩
set_option maxHeartbeats 4000000 in
theorem rsamp_q1 (a : Option Addr) (n cap : Nat) (zs : List SLab) (hreach : zs.length ≤ 100) (va tm sr sq : Int) (w : World) (hI : Labs w.heap.size w (.slice a n cap) zs) (hc : checkR zs = 0) (hz : zs.length ≠ 0) (ht : timeR tm = 0) (h1 : ¬ sr < 1) (h2 : ¬ 16 < sr) (h3 : ¬ sq < 1) (h4 : 9007199254740992 < sq) :
    Calls Tryz.prog 9 #[.agg #[.slice a n cap, .int .i64 va, .int .i64 tm, .int .i64 sr, .int .i64 sq]] w fun e w' => e = .returned (.int .i64 1) ∧ Below w.heap.size w w' := by
  obtain rfl : n = zs.length := hI.len
  have CK := Lib.hid (fun W (hW : Below w.heap.size w W) => rcheck_any a zs.length cap zs hreach W (labs_on hI hW))
  have TM := Lib.hid (fun W => rtime_any tm W)
  rw [hc] at CK
  clear hc hI
  have hz2 : ((zs.length : Int) == 0) = false := by rw [beq_eq_false_iff_ne]; omega
  rw [ht] at TM
  clear ht
  go_enter Tryz.func9, Tryz.ntmps9
  have A1 := blk_new w #[.slice a zs.length cap, .int .i64 va, .int .i64 tm, .int .i64 sr, .int .i64 sq] 39
  have B1 := below_cells (w := w) (.cells #[.slice a zs.length cap, .int .i64 va, .int .i64 tm, .int .i64 sr, .int .i64 sq] 39)
  have p0 := (blk_at A1).cell 0 _ rfl
  have p1 := (blk_at A1).cell 1 _ rfl
  have p2 := (blk_at A1).cell 2 _ rfl
  have p3 := (blk_at A1).cell 3 _ rfl
  have p4 := (blk_at A1).cell 4 _ rfl
  go_wp2_with fail
  refine (CK.out _ B1).mono ?_
  rintro e u0 ⟨rfl, hb⟩
  have E1 := blk_on A1 hb
  have C1 := B1.trans (hb.mono B1.size)
  clear A1 B1 hb p0 p1 p2 p3 p4
  have A1 := E1
  have B1 := C1
  clear E1 C1
  have p0 := (blk_at A1).cell 0 _ rfl
  have p1 := (blk_at A1).cell 1 _ rfl
  have p2 := (blk_at A1).cell 2 _ rfl
  have p3 := (blk_at A1).cell 3 _ rfl
  have p4 := (blk_at A1).cell 4 _ rfl
  go_wp2_with fail
  refine (TM.out _).mono ?_
  rintro e u1 ⟨rfl, hb⟩
  have E1 := blk_on A1 hb
  have C1 := B1.trans (hb.mono B1.size)
  clear A1 B1 hb p0 p1 p2 p3 p4
  have A1 := E1
  have B1 := C1
  clear E1 C1
  have p0 := (blk_at A1).cell 0 _ rfl
  have p1 := (blk_at A1).cell 1 _ rfl
  have p2 := (blk_at A1).cell 2 _ rfl
  have p3 := (blk_at A1).cell 3 _ rfl
  have p4 := (blk_at A1).cell 4 _ rfl
  go_wp2
  go_ret
  exact ⟨rfl, B1⟩
set_option maxHeartbeats 4000000 in
theorem rsamp_ok (a : Option Addr) (n cap : Nat) (zs : List SLab) (hreach : zs.length ≤ 100) (va tm sr sq : Int) (w : World) (hI : Labs w.heap.size w (.slice a n cap) zs) (hc : checkR zs = 0) (hz : zs.length ≠ 0) (ht : timeR tm = 0) (h1 : ¬ sr < 1) (h2 : ¬ 16 < sr) (h3 : ¬ sq < 1) (h4 : ¬ 9007199254740992 < sq) :
    Calls Tryz.prog 9 #[.agg #[.slice a n cap, .int .i64 va, .int .i64 tm, .int .i64 sr, .int .i64 sq]] w fun e w' => e = .returned (.int .i64 0) ∧ Below w.heap.size w w' := by
  obtain rfl : n = zs.length := hI.len
  have CK := Lib.hid (fun W (hW : Below w.heap.size w W) => rcheck_any a zs.length cap zs hreach W (labs_on hI hW))
  have TM := Lib.hid (fun W => rtime_any tm W)
  rw [hc] at CK
  clear hc hI
  have hz2 : ((zs.length : Int) == 0) = false := by rw [beq_eq_false_iff_ne]; omega
  rw [ht] at TM
  clear ht
  go_enter Tryz.func9, Tryz.ntmps9
  have A1 := blk_new w #[.slice a zs.length cap, .int .i64 va, .int .i64 tm, .int .i64 sr, .int .i64 sq] 39
  have B1 := below_cells (w := w) (.cells #[.slice a zs.length cap, .int .i64 va, .int .i64 tm, .int .i64 sr, .int .i64 sq] 39)
  have p0 := (blk_at A1).cell 0 _ rfl
  have p1 := (blk_at A1).cell 1 _ rfl
  have p2 := (blk_at A1).cell 2 _ rfl
  have p3 := (blk_at A1).cell 3 _ rfl
  have p4 := (blk_at A1).cell 4 _ rfl
  go_wp2_with fail
  refine (CK.out _ B1).mono ?_
  rintro e u0 ⟨rfl, hb⟩
  have E1 := blk_on A1 hb
  have C1 := B1.trans (hb.mono B1.size)
  clear A1 B1 hb p0 p1 p2 p3 p4
  have A1 := E1
  have B1 := C1
  clear E1 C1
  have p0 := (blk_at A1).cell 0 _ rfl
  have p1 := (blk_at A1).cell 1 _ rfl
  have p2 := (blk_at A1).cell 2 _ rfl
  have p3 := (blk_at A1).cell 3 _ rfl
  have p4 := (blk_at A1).cell 4 _ rfl
  go_wp2_with fail
  refine (TM.out _).mono ?_
  rintro e u1 ⟨rfl, hb⟩
  have E1 := blk_on A1 hb
  have C1 := B1.trans (hb.mono B1.size)
  clear A1 B1 hb p0 p1 p2 p3 p4
  have A1 := E1
  have B1 := C1
  clear E1 C1
  have p0 := (blk_at A1).cell 0 _ rfl
  have p1 := (blk_at A1).cell 1 _ rfl
  have p2 := (blk_at A1).cell 2 _ rfl
  have p3 := (blk_at A1).cell 3 _ rfl
  have p4 := (blk_at A1).cell 4 _ rfl
  go_wp2
  go_ret
  exact ⟨rfl, B1⟩
theorem rsamp_any (a : Option Addr) (n cap : Nat) (zs : List SLab) (hreach : zs.length ≤ 100) (va tm sr sq : Int) (w : World) (hI : Labs w.heap.size w (.slice a n cap) zs) :
    Calls Tryz.prog 9 #[.agg #[.slice a n cap, .int .i64 va, .int .i64 tm, .int .i64 sr, .int .i64 sq]] w fun e w' => e = .returned (.int .i64 (sampR zs tm sr sq)) ∧ Below w.heap.size w w' := by
  unfold sampR
  by_cases hc : checkR zs = 0
  · rw [if_neg (by rw [hc]; decide)]
    by_cases hz : zs.length = 0
    · rw [if_pos hz]; exact rsamp_none a n cap zs hreach va tm sr sq w hI hc hz
    · rw [if_neg hz]
      by_cases ht : timeR tm = 0
      · rw [if_neg (by rw [ht]; decide)]
        by_cases h1 : sr < 1
        · rw [if_pos (.inl h1)]; exact rsamp_s0 a n cap zs hreach va tm sr sq w hI hc hz ht h1
        · by_cases h2 : 16 < sr
          · rw [if_pos (.inr (.inl h2))]; exact rsamp_s1 a n cap zs hreach va tm sr sq w hI hc hz ht h1 h2
          · by_cases h3 : sq < 1
            · rw [if_pos (.inr (.inr (.inl h3)))]; exact rsamp_q0 a n cap zs hreach va tm sr sq w hI hc hz ht h1 h2 h3
            · by_cases h4 : 9007199254740992 < sq
              · rw [if_pos (.inr (.inr (.inr h4)))]; exact rsamp_q1 a n cap zs hreach va tm sr sq w hI hc hz ht h1 h2 h3 h4
              · rw [if_neg (by omega)]; exact rsamp_ok a n cap zs hreach va tm sr sq w hI hc hz ht h1 h2 h3 h4
      · rw [if_pos ht]
        have h1 : timeR tm = 1 := by unfold timeR at *; split at ht <;> simp_all
        rw [h1]; exact rsamp_late a n cap zs hreach va tm sr sq w hI hc hz ht
  · rw [if_pos hc]; exact rsamp_bad a n cap zs hreach va tm sr sq w hI hc
theorem blk_cellq {W : World} {b j : Nat} {cs : Array Value} {T : TypeId} (h : Blk W b cs T) : W.cell? ⟨b, j, none⟩ = cs[j]? := by
  unfold World.cell?
  dsimp only
  rw [show W.heap[b]? = _ from h]
  rfl
/-- a row of labels lies apart from a block that holds no text -/
theorem labs_apart {W W' : World} {b0 : Nat} {cs : Array Value} {T : TypeId} {v : Value} {zs : List SLab} (hB : Blk W b0 cs T) (hcs : ∀ (j : Nat) s, cs[j]? ≠ some (.string s)) (hk : ∀ b o, b ≠ b0 → W'.cell? ⟨b, o, none⟩ = W.cell? ⟨b, o, none⟩) (hz : W.heap.size ≤ W'.heap.size) (h : Labs W.heap.size W v zs) : Labs W'.heap.size W' v zs := by
  rcases h with h | ⟨b, off, cap, e, hb, hc⟩
  · exact .inl h
  · refine .inr ⟨b, off, cap, e, Nat.lt_of_lt_of_le hb hz, fun j x hj => ?_⟩
    have h1 := hc j x hj
    have hne : b ≠ b0 := by
      rintro rfl
      have := h1.1
      rw [blk_cellq hB] at this
      exact hcs _ _ this
    exact ⟨(hk _ _ hne).trans h1.1, (hk _ _ hne).trans h1.2⟩
theorem far5 (w : World) (b0 : Nat) (x0 x1 x2 x3 x4 : Value) : (∀ b o, b ≠ b0 → (((((w.setCell ⟨b0, 0, none⟩ x0).setCell ⟨b0, 1, none⟩ x1).setCell ⟨b0, 2, none⟩ x2).setCell ⟨b0, 3, none⟩ x3).setCell ⟨b0, 4, none⟩ x4).cell? ⟨b, o, none⟩ = w.cell? ⟨b, o, none⟩) ∧ w.heap.size ≤ (((((w.setCell ⟨b0, 0, none⟩ x0).setCell ⟨b0, 1, none⟩ x1).setCell ⟨b0, 2, none⟩ x2).setCell ⟨b0, 3, none⟩ x3).setCell ⟨b0, 4, none⟩ x4).heap.size := by
  refine ⟨fun b o hne => ?_, by simp⟩
  rw [World.cell?_setCell_far _ _ _ _ (Ne.symm hne), World.cell?_setCell_far _ _ _ _ (Ne.symm hne), World.cell?_setCell_far _ _ _ _ (Ne.symm hne), World.cell?_setCell_far _ _ _ _ (Ne.symm hne), World.cell?_setCell_far _ _ _ _ (Ne.symm hne)]
theorem slice_of_labs6 {n₀ : Nat} {W : World} {v : Value} {zs : List SLab} (h : Labs n₀ W v zs) : ∃ a n cap, v = .slice a n cap := by
  rcases h with ⟨⟨_, _, rfl⟩, _⟩ | ⟨b, off, cap, rfl, _⟩
  · exact ⟨_, _, _, rfl⟩
  · exact ⟨_, _, _, rfl⟩
set_option maxHeartbeats 4000000 in
theorem of6_any (a : Option Addr) (n cap : Nat) (zs : List SLab) (hreach : zs.length ≤ 100) (va tm sr sq : Int) (w : World) (hI : Labs w.heap.size w (.slice a n cap) zs) :
    Calls Tryz.prog 10 #[sampV (.slice a n cap) va tm sr sq] w fun e w' => ∃ v, e = .returned (sampV v va tm sr sq) ∧ Labs w'.heap.size w' v zs ∧ Below w.heap.size w w' := by
  obtain rfl : n = zs.length := hI.len
  have OF := Lib.hid (fun W (hW : Below w.heap.size w W) => of_any a zs.length cap zs hreach W (labs_on hI hW))
  clear hI
  unfold sampV
  refine (callsIn_wide (n := 9)).1 ?_
  refine callsIn_of_wp Tryz.func10 rfl trivial ?_ rfl
  simp only [Tryz.ntmps10, List.size_toArray, List.length_cons, List.length_nil, Nat.reduceAdd, Nat.reduceSub, Array.replicate_succ, Array.replicate_zero, List.push_toArray, List.append_toArray, List.nil_append, List.cons_append]
  have A1 := blk_on (blk_new w #[.slice a zs.length cap, .int .i64 va, .int .i64 tm, .int .i64 sr, .int .i64 sq] 33) (below_cells (w := (w.alloc (.cells #[.slice a zs.length cap, .int .i64 va, .int .i64 tm, .int .i64 sr, .int .i64 sq] 33))) (.cells #[.slice none 0 0, .int .i64 0, .int .i64 0, .int .i64 0, .int .i64 0] 39))
  have A2 := blk_new (w.alloc (.cells #[.slice a zs.length cap, .int .i64 va, .int .i64 tm, .int .i64 sr, .int .i64 sq] 33)) #[.slice none 0 0, .int .i64 0, .int .i64 0, .int .i64 0, .int .i64 0] 39
  rw [World.size_alloc] at A2
  have B := below_new (below_cells (w := w) (.cells #[.slice a zs.length cap, .int .i64 va, .int .i64 tm, .int .i64 sr, .int .i64 sq] 33)) (.cells #[.slice none 0 0, .int .i64 0, .int .i64 0, .int .i64 0, .int .i64 0] 39)
  gi_wp2
  generalize ((w.alloc (.cells #[.slice a zs.length cap, .int .i64 va, .int .i64 tm, .int .i64 sr, .int .i64 sq] 33)).alloc (.cells #[.slice none 0 0, .int .i64 0, .int .i64 0, .int .i64 0, .int .i64 0] 39)) = W2 at *
  have hS0 : ∀ u, (u = W2 ∨ u = W2.drew) → u.cell? ⟨w.heap.size, 0, none⟩ = some (.slice a zs.length cap) ∧ u.cell? ⟨w.heap.size, 1, none⟩ = some (.int .i64 va) ∧ u.cell? ⟨w.heap.size, 2, none⟩ = some (.int .i64 tm) ∧ u.cell? ⟨w.heap.size, 3, none⟩ = some (.int .i64 sr) ∧ u.cell? ⟨w.heap.size, 4, none⟩ = some (.int .i64 sq) := by
    have K : ∀ j v, #[.slice a zs.length cap, .int .i64 va, .int .i64 tm, .int .i64 sr, .int .i64 sq].toList[j]? = some v → W2.cell? ⟨w.heap.size, j, none⟩ = some v := fun j v => (blk_at A1).cell j v
    rintro u (rfl | rfl)
    · exact ⟨K 0 _ rfl, K 1 _ rfl, K 2 _ rfl, K 3 _ rfl, K 4 _ rfl⟩
    · exact ⟨K 0 _ rfl, K 1 _ rfl, K 2 _ rfl, K 3 _ rfl, K 4 _ rfl⟩
  refine wpIn_mono ?_ NoPanic.imp
  refine region_anyM (S := fun u => u.cell? ⟨w.heap.size, 0, none⟩ = some (.slice a zs.length cap) ∧ u.cell? ⟨w.heap.size, 1, none⟩ = some (.int .i64 va) ∧ u.cell? ⟨w.heap.size, 2, none⟩ = some (.int .i64 tm) ∧ u.cell? ⟨w.heap.size, 3, none⟩ = some (.int .i64 sr) ∧ u.cell? ⟨w.heap.size, 4, none⟩ = some (.int .i64 sq)) 12 (by kernel_rfl) (fun hS => ?_) (hS0 _ (.inr rfl))
  refine' anyM_take (i := 0) (oi := ?oi0) (v := ?v0) [0, 12] (by kernel_rfl) ?hi0 (by kernel_rfl) (by kernel_rfl) (by kernel_rfl) (by kernel_rfl) (fun _ _ _ h => h) ?hy0 ?hab0 hS ?rest0
  case hi0 =>
    simp only [List.getElem?_toArray, List.getElem?_cons_succ, List.getElem?_cons_zero]
    exact rfl
  case hy0 =>
    refine Or.inl ⟨by rfl, ?_⟩
    intro w hSw
    (try dsimp only at hSw)
    go_simp
    (try with_reducible rfl)
  case hab0 => exact fun _ => rfl
  (try simp only [Act.put, List.setIfInBounds_toArray, List.set_cons_zero, List.set_cons_succ])
  refine' anyM_take (i := 1) (oi := ?oi1) (v := ?v1) [1, 12] (by kernel_rfl) ?hi1 (by kernel_rfl) (by kernel_rfl) (by kernel_rfl) (by kernel_rfl) (fun _ _ _ h => h) ?hy1 ?hab1 hS ?rest1
  case hi1 =>
    simp only [List.getElem?_toArray, List.getElem?_cons_succ, List.getElem?_cons_zero]
    exact rfl
  case hy1 =>
    refine Or.inl ⟨by rfl, ?_⟩
    intro w hSw
    (try dsimp only at hSw)
    go_simp
    (try with_reducible rfl)
  case hab1 => exact fun _ => rfl
  (try simp only [Act.put, List.setIfInBounds_toArray, List.set_cons_zero, List.set_cons_succ])
  refine' anyM_take (i := 3) (oi := ?oi3) (v := ?v3) [3, 12] (by kernel_rfl) ?hi3 (by kernel_rfl) (by kernel_rfl) (by kernel_rfl) (by kernel_rfl) (fun _ _ _ h => h) ?hy3 ?hab3 hS ?rest3
  case hi3 =>
    simp only [List.getElem?_toArray, List.getElem?_cons_succ, List.getElem?_cons_zero]
    exact rfl
  case hy3 =>
    refine Or.inl ⟨by rfl, ?_⟩
    intro w hSw
    (try dsimp only at hSw)
    go_simp
    (try with_reducible rfl)
  case hab3 => exact fun _ => rfl
  (try simp only [Act.put, List.setIfInBounds_toArray, List.set_cons_zero, List.set_cons_succ])
  refine' anyM_take (i := 4) (oi := ?oi4) (v := ?v4) [4, 12] (by kernel_rfl) ?hi4 (by kernel_rfl) (by kernel_rfl) (by kernel_rfl) (by kernel_rfl) (fun _ _ _ h => h) ?hy4 ?hab4 hS ?rest4
  case hi4 =>
    simp only [List.getElem?_toArray, List.getElem?_cons_succ, List.getElem?_cons_zero]
    exact rfl
  case hy4 =>
    refine Or.inl ⟨by rfl, ?_⟩
    intro w hSw
    (try dsimp only at hSw)
    go_simp
    (try with_reducible rfl)
  case hab4 => exact fun _ => rfl
  (try simp only [Act.put, List.setIfInBounds_toArray, List.set_cons_zero, List.set_cons_succ])
  refine' anyM_take (i := 5) (oi := ?oi5) (v := ?v5) [5, 12] (by kernel_rfl) ?hi5 (by kernel_rfl) (by kernel_rfl) (by kernel_rfl) (by kernel_rfl) (fun _ _ _ h => h) ?hy5 ?hab5 hS ?rest5
  case hi5 =>
    simp only [List.getElem?_toArray, List.getElem?_cons_succ, List.getElem?_cons_zero]
    exact rfl
  case hy5 =>
    refine Or.inl ⟨by rfl, ?_⟩
    intro w hSw
    (try dsimp only at hSw)
    go_simp
    (try with_reducible rfl)
  case hab5 => exact fun _ => rfl
  (try simp only [Act.put, List.setIfInBounds_toArray, List.set_cons_zero, List.set_cons_succ])
  refine' anyM_take (i := 6) (oi := ?oi6) (v := ?v6) [6, 12] (by kernel_rfl) ?hi6 (by kernel_rfl) (by kernel_rfl) (by kernel_rfl) (by kernel_rfl) (fun _ _ _ h => h) ?hy6 ?hab6 hS ?rest6
  case hi6 =>
    simp only [List.getElem?_toArray, List.getElem?_cons_succ, List.getElem?_cons_zero]
    exact rfl
  case hy6 =>
    refine Or.inl ⟨by rfl, ?_⟩
    intro w hSw
    (try dsimp only at hSw)
    go_simp
    (try with_reducible rfl)
  case hab6 => exact fun _ => rfl
  (try simp only [Act.put, List.setIfInBounds_toArray, List.set_cons_zero, List.set_cons_succ])
  refine' anyM_take (i := 7) (oi := ?oi7) (v := ?v7) [7, 12] (by kernel_rfl) ?hi7 (by kernel_rfl) (by kernel_rfl) (by kernel_rfl) (by kernel_rfl) (fun _ _ _ h => h) ?hy7 ?hab7 hS ?rest7
  case hi7 =>
    simp only [List.getElem?_toArray, List.getElem?_cons_succ, List.getElem?_cons_zero]
    exact rfl
  case hy7 =>
    refine Or.inl ⟨by rfl, ?_⟩
    intro w hSw
    (try dsimp only at hSw)
    go_simp
    (try with_reducible rfl)
  case hab7 => exact fun _ => rfl
  (try simp only [Act.put, List.setIfInBounds_toArray, List.set_cons_zero, List.set_cons_succ])
  refine' anyM_take (i := 8) (oi := ?oi8) (v := ?v8) [8, 12] (by kernel_rfl) ?hi8 (by kernel_rfl) (by kernel_rfl) (by kernel_rfl) (by kernel_rfl) (fun _ _ _ h => h) ?hy8 ?hab8 hS ?rest8
  case hi8 =>
    simp only [List.getElem?_toArray, List.getElem?_cons_succ, List.getElem?_cons_zero]
    exact rfl
  case hy8 =>
    refine Or.inl ⟨by rfl, ?_⟩
    intro w hSw
    (try dsimp only at hSw)
    go_simp
    (try with_reducible rfl)
  case hab8 => exact fun _ => rfl
  (try simp only [Act.put, List.setIfInBounds_toArray, List.set_cons_zero, List.set_cons_succ])
  refine' anyM_take (i := 9) (oi := ?oi9) (v := ?v9) [9, 12] (by kernel_rfl) ?hi9 (by kernel_rfl) (by kernel_rfl) (by kernel_rfl) (by kernel_rfl) (fun _ _ _ h => h) ?hy9 ?hab9 hS ?rest9
  case hi9 =>
    simp only [List.getElem?_toArray, List.getElem?_cons_succ, List.getElem?_cons_zero]
    exact rfl
  case hy9 =>
    refine Or.inl ⟨by rfl, ?_⟩
    intro w hSw
    (try dsimp only at hSw)
    go_simp
    (try with_reducible rfl)
  case hab9 => exact fun _ => rfl
  (try simp only [Act.put, List.setIfInBounds_toArray, List.set_cons_zero, List.set_cons_succ])
  refine' anyM_take (i := 10) (oi := ?oi10) (v := ?v10) [10, 12] (by kernel_rfl) ?hi10 (by kernel_rfl) (by kernel_rfl) (by kernel_rfl) (by kernel_rfl) (fun _ _ _ h => h) ?hy10 ?hab10 hS ?rest10
  case hi10 =>
    simp only [List.getElem?_toArray, List.getElem?_cons_succ, List.getElem?_cons_zero]
    exact rfl
  case hy10 =>
    refine Or.inl ⟨by rfl, ?_⟩
    intro w hSw
    (try dsimp only at hSw)
    go_simp
    (try with_reducible rfl)
  case hab10 => exact fun _ => rfl
  (try simp only [Act.put, List.setIfInBounds_toArray, List.set_cons_zero, List.set_cons_succ])
  refine' anyM_only (i := 2) (o := ?oo2) (by kernel_rfl) (by decide) ?ho2 ?hw2 (fun K hK => ?st2)
  case ho2 =>
    simp only [List.getElem?_toArray, List.getElem?_cons_succ, List.getElem?_cons_zero]
    exact rfl
  case hw2 => rfl
  go_simp
  refine ⟨trivial, ?_⟩
  gi_at_call 23
  refine (callsIn_wide.2 (OF.out _ B.drew)).mono ?_
  rintro e w2 ⟨v2, rfl, own2, bl2⟩
  have D1 := blk_on (show Blk W2.drew _ _ _ from A1) bl2
  have D2 := blk_on (show Blk W2.drew _ _ _ from A2) bl2
  have L2 := labs_of_row9 own2
  have B2 := (B.drew).trans (bl2.mono B.drew.size)
  have q0 := (blk_at D1).cell 0 _ rfl
  have q1 := (blk_at D1).cell 1 _ rfl
  have q2 := (blk_at D1).cell 2 _ rfl
  have q3 := (blk_at D1).cell 3 _ rfl
  have q4 := (blk_at D1).cell 4 _ rfl
  obtain ⟨a2, n2, c2, rfl⟩ := slice_of_labs6 L2
  go_simp
  refine hK _ _ ⟨q0, q1, q2, q3, q4⟩ ?_
  clear hK K hS hS0
  have hS : w2.cell? ⟨w.heap.size, 0, none⟩ = some (.slice a zs.length cap) ∧ w2.cell? ⟨w.heap.size, 1, none⟩ = some (.int .i64 va) ∧ w2.cell? ⟨w.heap.size, 2, none⟩ = some (.int .i64 tm) ∧ w2.cell? ⟨w.heap.size, 3, none⟩ = some (.int .i64 sr) ∧ w2.cell? ⟨w.heap.size, 4, none⟩ = some (.int .i64 sq) := ⟨q0, q1, q2, q3, q4⟩
  (try simp only [Act.put, List.setIfInBounds_toArray, List.set_cons_zero, List.set_cons_succ])
  refine' anyM_take (i := 11) (oi := ?oi11) (v := ?v11) [11, 12] (by kernel_rfl) ?hi11 (by kernel_rfl) (by kernel_rfl) (by kernel_rfl) (by kernel_rfl) (fun _ _ _ h => h) ?hy11 ?hab11 hS ?rest11
  case hi11 =>
    simp only [List.getElem?_toArray, List.getElem?_cons_succ, List.getElem?_cons_zero]
    exact rfl
  case hy11 =>
    refine Or.inl ⟨by rfl, ?_⟩
    intro w hSw
    (try dsimp only at hSw)
    go_simp
    (try with_reducible rfl)
  case hab11 => exact fun _ => rfl
  (try simp only [Act.put, List.setIfInBounds_toArray, List.set_cons_zero, List.set_cons_succ])
  refine' anyM_last (o := ?oo12) (by kernel_rfl) ?ho12 ?hw12 (fun K hK => ?st12)
  case ho12 =>
    simp only [List.getElem?_toArray, List.getElem?_cons_succ, List.getElem?_cons_zero]
    exact rfl
  case hw12 => rfl
  have r0 := (blk_at D2).cell 0 _ rfl
  have r1 := (blk_at D2).cell 1 _ rfl
  have r2 := (blk_at D2).cell 2 _ rfl
  have r3 := (blk_at D2).cell 3 _ rfl
  have r4 := (blk_at D2).cell 4 _ rfl
  have f0 := (blk_at D2).free 0 _ rfl
  have f1 := (blk_at D2).free 1 _ rfl
  have f2 := (blk_at D2).free 2 _ rfl
  have f3 := (blk_at D2).free 3 _ rfl
  have f4 := (blk_at D2).free 4 _ rfl
  have nr := (blk_at D2).lt
  have DF := (((((blk_at D2).set 0 (.slice a2 n2 c2)).set 1 (.int .i64 va)).set 2 (.int .i64 tm)).set 3 (.int .i64 sr)).set 4 (.int .i64 sq)
  have BF := (((((B2.setCell (p := ⟨w.heap.size + 1, 0, none⟩) (by simp) (.slice a2 n2 c2)).setCell (p := ⟨w.heap.size + 1, 1, none⟩) (by simp) (.int .i64 va)).setCell (p := ⟨w.heap.size + 1, 2, none⟩) (by simp) (.int .i64 tm)).setCell (p := ⟨w.heap.size + 1, 3, none⟩) (by simp) (.int .i64 sr)).setCell (p := ⟨w.heap.size + 1, 4, none⟩) (by simp) (.int .i64 sq))
  have FAR := far5 w2 (w.heap.size + 1) (.slice a2 n2 c2) (.int .i64 va) (.int .i64 tm) (.int .i64 sr) (.int .i64 sq)
  have LF := labs_apart D2 (by
    intro j s
    rcases j with _ | _ | _ | _ | _ | j
    all_goals simp) FAR.1 FAR.2 L2
  simp only [List.set_cons_zero, List.set_cons_succ] at DF
  go_simp
  refine hK _ _ ?_
  clear hK K
  refine anyIn_done (by kernel_rfl) (NoPanic.normal ?_) _
  have q0 := DF.cell 0 _ rfl
  have q1 := DF.cell 1 _ rfl
  have q2 := DF.cell 2 _ rfl
  have q3 := DF.cell 3 _ rfl
  have q4 := DF.cell 4 _ rfl
  clear FAR r0 r1 r2 r3 r4 hS
  gi_wp2
  refine bodyPost_ret (v := .agg #[.slice a2 n2 c2, .int .i64 va, .int .i64 tm, .int .i64 sr, .int .i64 sq]) ?_ rfl ⟨_, rfl, LF, BF⟩
  simp [results, Tryz.f10, go_sem, q0, q1, q2, q3, q4]
end Go.Proofs.YtedcdhngiofpjaaGreatDoor
