/- The reference's SpanParse. -/
import Derived.Test.YtmiahbaadlddjaaDoorParseN
import Derived.Test.YtmiahbaadlddjaaDoorSpanOf
import Derived.Test.YtmiahbaadlddjaaDoorNumber
import Derived.Deep.LoopGhost
import Derived.Deep.DeepCutAuto
import Derived.Deep.CutBlock
namespace Go.Proofs.YtmiahbaadlddjaaDoor
open Go Go.Proofs Go.RowKit Go.Shelf
set_option maxRecDepth 100000
/-- a run of bytes of one kind, as far as it has been gone through -/
theorem run_ext (p : UInt8 → Bool) (r : List UInt8) (n : Nat) (c : UInt8) (h : (r.take n).all p = true) (hc : r[n]? = some c) (hp : p c = true) : (r.take (n + 1)).all p = true := by
  obtain ⟨hn, rfl⟩ := List.getElem?_eq_some_iff.1 hc
  rw [List.take_succ_eq_append_getElem hn, List.all_append, h]
  simp [hp]
theorem run_end (p : UInt8 → Bool) : ∀ (r : List UInt8) (n : Nat), (r.take n).all p = true → (r[n]? = none ∨ ∃ c, r[n]? = some c ∧ p c = false) → n ≤ r.length → r.takeWhile p = r.take n ∧ r.dropWhile p = r.drop n := by
  intro r
  induction r with
  | nil => intro n _ _ hn; simp at hn; subst hn; exact ⟨rfl, rfl⟩
  | cons a t ih =>
    intro n h hc hn
    cases n with
    | zero =>
      rcases hc with hc | ⟨c, hc, hp⟩
      · simp at hc
      · simp at hc; subst hc
        rw [List.takeWhile_cons, List.dropWhile_cons, if_neg (by rw [hp]; simp), if_neg (by rw [hp]; simp)]
        exact ⟨rfl, rfl⟩
    | succ n =>
      rw [List.take_succ_cons, List.all_cons, Bool.and_eq_true] at h
      obtain ⟨h1, h2⟩ := ih n h.2 (by simpa using hc) (by simpa using hn)
      rw [List.takeWhile_cons, List.dropWhile_cons, if_pos h.1, if_pos h.1, h1, h2]
      exact ⟨rfl, rfl⟩
theorem az_iff (c : UInt8) : az c = true ↔ 97 ≤ c.toNat ∧ c.toNat ≤ 122 := by
  unfold az; rw [Bool.and_eq_true, decide_eq_true_eq, decide_eq_true_eq]
theorem dB_no (c : UInt8) (h : dB c = false) : c.toNat < 48 ∨ 57 < c.toNat := by
  have : ¬ (48 ≤ c.toNat ∧ c.toNat ≤ 57) := fun h' => by rw [(dB_iff c).2 h'] at h; cases h
  omega
theorem az_no (c : UInt8) (h : az c = false) : c.toNat < 97 ∨ 122 < c.toNat := by
  have : ¬ (97 ≤ c.toNat ∧ c.toNat ≤ 122) := fun h' => by rw [(az_iff c).2 h'] at h; cases h
  omega
theorem rGo_bad (us : List (Fin 5)) (r : List UInt8) (tot : Nat) (big : Bool) (h : r ≠ []) (hd : r.takeWhile dB = [] ∨ (r.takeWhile dB).head? = some 48) : rGo us r tot big = none := by
  cases us with
  | nil => unfold rGo; rw [if_neg h]
  | cons u us => unfold rGo; rw [if_neg h, if_pos hd]
theorem rGo_skip (r : List UInt8) (tot : Nat) (big : Bool) (h : r ≠ []) (hd : ¬ (r.takeWhile dB = [] ∨ (r.takeWhile dB).head? = some 48)) (us vs : List (Fin 5)) (hu : ∀ u ∈ us, (r.dropWhile dB).takeWhile az ≠ unitWord u) : rGo (us ++ vs) r tot big = rGo vs r tot big := by
  induction us with
  | nil => rfl
  | cons u t ih =>
    rw [List.cons_append]
    conv => lhs; unfold rGo
    rw [if_neg h, if_neg hd, if_neg (hu u List.mem_cons_self)]
    exact ih (fun v hv => hu v (List.mem_cons_of_mem _ hv))
def capOf (n : Nat) : Nat := n * 8796093022208
theorem cap_mono {a b : Nat} (h : a ≤ b) : capOf a ≤ capOf b := Nat.mul_le_mul_right _ h
theorem cap_five {a : Nat} (h : a ≤ 5) : capOf a ≤ 43980465111040 := Nat.le_trans (cap_mono h) (by decide)
theorem cap_add {tot p a : Nat} (h : tot ≤ capOf a) (hp : p ≤ 4398046511104) : tot + p ≤ capOf (a + 1) := by
  unfold capOf at *
  rw [Nat.add_mul]
  exact Nat.add_le_add h (Nat.le_trans hp (by decide))
theorem cap_next {tot a : Nat} (h : tot ≤ capOf a) : tot ≤ capOf (a + 1) := Nat.le_trans h (cap_mono (Nat.le_succ a))
def allU : List (Fin 5) := [0, 1, 2, 3, 4]
theorem five_drop (k : Nat) (h : k < 5) : allU.drop k = ⟨k, h⟩ :: allU.drop (k + 1) := by
  match k, h with
  | 0, _ => rfl
  | 1, _ => rfl
  | 2, _ => rfl
  | 3, _ => rfl
  | 4, _ => rfl
theorem rGo_nil (us : List (Fin 5)) (tot : Nat) (big : Bool) : rGo us [] tot big = some (tot, big) := by
  cases us <;> rfl
theorem mid_mem : ∀ nx aa : Fin 6, nx ≤ aa → ∀ u ∈ (allU.drop nx.val).take (aa.val - nx.val), nx.val ≤ u.val ∧ u.val < aa.val := by decide
theorem mid_split (nx aa : Nat) (h : nx ≤ aa) : allU.drop nx = (allU.drop nx).take (aa - nx) ++ allU.drop aa := by
  conv => lhs; rw [← List.take_append_drop (aa - nx) (allU.drop nx)]
  rw [List.drop_drop]
  congr 2
  omega
theorem go_skip (r : List UInt8) (tot : Nat) (big : Bool) (nx aa : Nat) (wl : List UInt8) (h : r ≠ []) (hd : ¬ (r.takeWhile dB = [] ∨ (r.takeWhile dB).head? = some 48)) (hW : (r.dropWhile dB).takeWhile az = wl) (h1 : nx ≤ aa) (h2 : aa ≤ 5) (hs : ∀ v : Fin 5, nx ≤ v.val → v.val < aa → wl ≠ unitWord v) :
    rGo (allU.drop nx) r tot big = rGo (allU.drop aa) r tot big := by
  rw [mid_split nx aa h1]
  exact rGo_skip r tot big h hd _ _ (fun u hu => by
    obtain ⟨m1, m2⟩ := mid_mem ⟨nx, by omega⟩ ⟨aa, by omega⟩ h1 u hu
    rw [hW]
    exact hs u m1 m2)
theorem go_five (r : List UInt8) (tot : Nat) (big : Bool) (nx : Nat) (wl : List UInt8) (h : r ≠ []) (hW : (r.dropWhile dB).takeWhile az = wl) (h1 : nx ≤ 5) (hs : ∀ v : Fin 5, nx ≤ v.val → v.val < 5 → wl ≠ unitWord v) : rGo (allU.drop nx) r tot big = none := by
  by_cases hd : r.takeWhile dB = [] ∨ (r.takeWhile dB).head? = some 48
  · exact rGo_bad _ _ _ _ h hd
  · rw [go_skip r tot big nx 5 wl h hd hW h1 (by omega) hs]
    show rGo [] r tot big = none
    unfold rGo
    rw [if_neg h]
theorem go_at (r r2 D : List UInt8) (tot : Nat) (big : Bool) (nx aa : Nat) (wl : List UInt8) (h : r ≠ []) (hD : r.takeWhile dB = D) (hd : ¬ (D = [] ∨ D.head? = some 48)) (hW : (r.dropWhile dB).takeWhile az = wl ∧ (r.dropWhile dB).dropWhile az = r2) (h1 : nx ≤ aa) (h2 : aa < 5) (hs : ∀ v : Fin 5, nx ≤ v.val → v.val < aa → wl ≠ unitWord v) (he : wl = unitWord ⟨aa, h2⟩) :
    rGo (allU.drop nx) r tot big = if (⟨aa, h2⟩ : Fin 5) ≠ 0 ∧ unitMost ⟨aa, h2⟩ < dval D then none else if maxT / unitSize ⟨aa, h2⟩ < dval D then rGo (allU.drop (aa + 1)) r2 tot true else rGo (allU.drop (aa + 1)) r2 (tot + dval D * unitSize ⟨aa, h2⟩) big := by
  rw [go_skip r tot big nx aa wl h (by rw [hD]; exact hd) hW.1 h1 (by omega) hs, five_drop aa h2]
  conv => lhs; unfold rGo
  rw [if_neg h, hD, if_neg hd, hW.1, hW.2, if_pos he]
theorem refR_none (l : List UInt8) (h : l ≠ [48]) (hr : rGo allU l 0 false = none) : refR l = (0, 2) := by
  unfold refR
  rw [if_neg h, show rGo [0, 1, 2, 3, 4] l 0 false = none from hr]
theorem refR_some (l : List UInt8) (tot : Nat) (big : Bool) (h : l ≠ [48]) (hr : rGo allU l 0 false = some (tot, big)) : refR l = if l = [] then (0, 2) else if big = true ∨ maxT < tot then (0, 1) else ((tot : Int), 0) := by
  unfold refR
  rw [if_neg h, show rGo [0, 1, 2, 3, 4] l 0 false = some (tot, big) from hr]
theorem ratio_all : ∀ b : Fin 4, unitSize ⟨b.val, by omega⟩ / unitSize ⟨b.val + 1, by omega⟩ = unitMost ⟨b.val + 1, by omega⟩ + 1 := by decide +kernel
theorem ratio_at (b : Nat) (h : b + 1 < 5) : unitSize ⟨b, by omega⟩ / unitSize ⟨b + 1, h⟩ = unitMost ⟨b + 1, h⟩ + 1 := ratio_all ⟨b, by omega⟩
theorem most_all : ∀ b : Fin 4, unitMost ⟨b.val + 1, by omega⟩ ≤ 999 ∧ 999 ≤ maxT / unitSize ⟨b.val + 1, by omega⟩ := by decide +kernel
theorem most_small (b : Nat) (h : b + 1 < 5) : unitMost ⟨b + 1, h⟩ ≤ 999 ∧ 999 ≤ maxT / unitSize ⟨b + 1, h⟩ := most_all ⟨b, by omega⟩
theorem dB_isDig (c : UInt8) : isDig c = dB c := by
  have h : ∀ b : Bool, (dB c = true ↔ b = true) → dB c = b := fun b hb => by
    cases h1 : dB c <;> cases b <;> simp_all
  refine (h _ ?_).symm
  rw [dB_iff]
  unfold isDig
  rw [Bool.and_eq_true, decide_eq_true_eq, decide_eq_true_eq]
theorem isDec_of (D : List UInt8) (h : D.all dB = true) (h0 : ¬ (D = [] ∨ D.head? = some 48)) : isDec D = true := by
  rcases D with _ | ⟨c, t⟩
  · exact absurd (.inl rfl) h0
  · rw [isDec_cons, show (c :: t).all isDig = (c :: t).all dB by congr 1; funext x; exact dB_isDig x, h]
    have : c.toNat ≠ 48 := fun e => h0 (.inr (by rw [List.head?_cons]; congr 1; exact UInt8.toNat_inj.1 e))
    simp [this]
theorem valD_dval (D : List UInt8) : valD D = dval D := rfl
set_option maxHeartbeats 8000000 in
theorem rparse_loop (s : ByteArray) (l : List UInt8) (hud : s.data.toList = l) (hl : l.length ≤ 1000) (hne : (s.toList == [48]) = false) (hn48 : l ≠ [48]) (W : World) :
    Calls Tryd.prog 20 #[.string s] W fun e w' => e = .returned (Two (refR l)) ∧ Below W.heap.size W w' := by
  have U := Lib.hid (fun W => units_any W)
  have hsz : s.size = l.length := by subst hud; exact Array.length_toList.symm
  have hmx : s.size ≤ 1000 := by omega
  have hat : ∀ k (h : k < s.size), l[k]? = some s[k] := fun k h => by rw [← hud]; exact Lib.data_getElem? s k h
  have HUd := Lib.hid hud
  have HN := Lib.hid hn48
  clear hn48
  have HSz := Lib.hid hsz
  have HAt := Lib.hid hat
  clear hl hud hsz hat
  go_enter Tryd.func20, Tryd.ntmps20
  go_wp2_with fail
  refine (U.out _).mono ?_
  rintro e w2 ⟨rfl, a1, a2, hb2⟩
  have A1 := Lib.hid a1
  have A2 := Lib.hid a2
  clear a1 a2 U
  go_wp2
  go_loopg [6, 7, 8, 9] s.size (fun g s6 s7 s8 s9 wr => ∃ (nx i tot : Nat) (big : Bool), nx ≤ 5 ∧ i + g = s.size ∧ s6 = .int .i64 (tot : Int) ∧ s7 = .bool big ∧ s8 = .int .i64 (nx : Int) ∧ s9 = .int .i64 (i : Int) ∧ tot ≤ capOf nx ∧ Below w2.heap.size w2 wr ∧ Hid (rGo allU l 0 false = rGo (allU.drop nx) (l.drop i) tot big))
  case atStart => exact ⟨0, 0, 0, false, by omega, by omega, rfl, rfl, rfl, rfl, Nat.zero_le _, Below.refl _ _, rfl⟩
  case round =>
    obtain ⟨nx, i, tot, big, hnx, hig, rfl, rfl, rfl, rfl, htot, hB, hH⟩ := hrel
    cases gk with
    | zero =>
      have hi : i = s.size := by omega
      have hil' : ¬ (i : Int) < (s.size : Int) := by omega
      have hBr := hb2.trans (hB.mono hb2.size)
      have hrest : l.drop i = [] := List.drop_eq_nil_of_le (by have := HSz.out; omega)
      have RS := refR_some l tot big HN.out (by rw [hH.out, hrest, rGo_nil])
      have htot3 : tot ≤ 43980465111040 := Nat.le_trans htot (cap_five hnx)
      clear hrest hH htot hig hnx hB
      by_cases h0 : l = []
      · rw [if_pos h0] at RS
        have PV := Lib.hid RS
        have e1 : s.toList.isEmpty = true := by rw [ByteArray.toList_eq, HUd.out, h0]; rfl
        have e2 : s.toList = [] := by rw [ByteArray.toList_eq, HUd.out, h0]
        clear RS h0
        go_wp2
        go_ret2
        exact ⟨by rw [PV.out]; rfl, hBr⟩
      · rw [if_neg h0] at RS
        have e1 : s.toList.isEmpty = false := by
          rw [ByteArray.toList_eq, HUd.out]; cases l with | nil => exact absurd rfl h0 | cons _ _ => rfl
        have e2 : ¬ s.toList = [] := by rw [ByteArray.toList_eq, HUd.out]; exact h0
        clear h0
        cases big
        · by_cases hm : maxT < tot
          · rw [if_pos (.inr hm)] at RS
            have PV := Lib.hid RS
            have hm' : (4398046511104 : Int) < (tot : Int) := by unfold maxT at hm; omega
            clear RS hm
            go_wp2
            go_ret2
            exact ⟨by rw [PV.out]; rfl, hBr⟩
          · rw [if_neg (by rintro (h | h); cases h; exact hm h)] at RS
            have PV := Lib.hid RS
            have hm' : ¬ (4398046511104 : Int) < (tot : Int) := by unfold maxT at hm; omega
            clear RS hm
            go_wp2
            go_ret2
            exact ⟨by rw [PV.out]; rfl, hBr⟩
        · rw [if_pos (.inl rfl)] at RS
          have PV := Lib.hid RS
          clear RS
          go_wp2
          go_ret2
          exact ⟨by rw [PV.out]; rfl, hBr⟩
    | succ g =>
      have hil : i < s.size := by omega
      have hil' : (i : Int) < (s.size : Int) := by omega
      have hat := HAt.out
      go_upto_block 2 with fail
      go_cut [10] (fun x wx => ∃ kk : Nat, i ≤ kk ∧ kk ≤ s.size ∧ x = .int .i64 (kk : Int) ∧ wr = wx ∧ Hid ((l.drop i).takeWhile dB = (l.drop i).take (kk - i) ∧ (l.drop i).dropWhile dB = l.drop kk))
      case first =>
        go_wp2_with fail
        go_loopg [10] (s.size - i) (fun g2 x wx => ∃ kk : Nat, i ≤ kk ∧ kk + g2 = s.size ∧ x = .int .i64 (kk : Int) ∧ wx = wr ∧ Hid (((l.drop i).take (kk - i)).all dB = true))
        case atStart => exact ⟨i, Nat.le_refl _, by omega, rfl, rfl, by unfold Hid; rw [Nat.sub_self]; rfl⟩
        case round =>
          obtain ⟨kk, q1, q2, rfl, rfl, q3⟩ := hrel
          cases gk with
          | zero =>
            have q4 : ¬ (kk : Int) < (s.size : Int) := by omega
            have q5 : Hid ((l.drop i).takeWhile dB = (l.drop i).take (kk - i) ∧ (l.drop i).dropWhile dB = l.drop kk) := by
              have hz := HSz.out
              obtain ⟨z1, z2⟩ := run_end dB (l.drop i) (kk - i) q3.out (.inl (by rw [List.getElem?_drop, List.getElem?_eq_none (by omega)])) (by rw [List.length_drop]; omega)
              exact ⟨z1, by rw [z2, List.drop_drop]; congr 1; omega⟩
            clear q3
            go_wp2
            go_meet
            exact ⟨kk, q1, by omega, rfl, rfl, q5⟩
          | succ g2 =>
            have q4 : (kk : Int) < (s.size : Int) := by omega
            have q6 : kk < s.size := by omega
            obtain ⟨c, hc⟩ : ∃ c, s[kk] = c := ⟨_, rfl⟩
            have hgc : (l.drop i)[kk - i]? = some c := by
              rw [List.getElem?_drop, show i + (kk - i) = kk by omega, ← hc]
              exact hat kk q6
            clear hat
            by_cases hp : dB c = true
            · obtain ⟨p1, p2⟩ := (dB_iff c).1 hp
              have p3 : (48 : Int) ≤ (c.toNat : Int) := by omega
              have p4 : (c.toNat : Int) ≤ 57 := by omega
              have q5 : Hid (((l.drop i).take (kk + 1 - i)).all dB = true) := by
                rw [show kk + 1 - i = (kk - i) + 1 by omega]
                exact run_ext dB _ _ c q3.out hgc hp
              clear q3 hgc hp p1 p2
              go_wp2
              go_roundg g2
              case measure => omega
              case rel => exact ⟨kk + 1, by omega, by omega, by go_num, rfl, q5⟩
            · have hpf : dB c = false := by simpa using hp
              have q5 : Hid ((l.drop i).takeWhile dB = (l.drop i).take (kk - i) ∧ (l.drop i).dropWhile dB = l.drop kk) := by
                obtain ⟨z1, z2⟩ := run_end dB (l.drop i) (kk - i) q3.out (.inr ⟨c, hgc, hpf⟩) (by have hz := HSz.out; rw [List.length_drop]; omega)
                exact ⟨z1, by rw [z2, List.drop_drop]; congr 1; omega⟩
              have hno := dB_no c hpf
              clear q3 hgc hp hpf
              rcases hno with p1 | p1
              · have p3 : ¬ (48 : Int) ≤ (c.toNat : Int) := by omega
                clear p1
                go_wp2
                go_meet
                exact ⟨kk, q1, by omega, rfl, rfl, q5⟩
              · have p3 : (48 : Int) ≤ (c.toNat : Int) := by omega
                have p4 : ¬ (c.toNat : Int) ≤ 57 := by omega
                clear p1
                go_wp2
                go_meet
                exact ⟨kk, q1, by omega, rfl, rfl, q5⟩
      case rest =>
      obtain ⟨kk, kk1, kk2, rfl, rfl, kkH⟩ := hcut
      go_upto_block 4 with fail
      go_cut [11] (fun x wx => ∃ jj : Nat, kk ≤ jj ∧ jj ≤ s.size ∧ x = .int .i64 (jj : Int) ∧ wr = wx ∧ Hid ((l.drop kk).takeWhile az = (l.drop kk).take (jj - kk) ∧ (l.drop kk).dropWhile az = l.drop jj))
      case first =>
        go_wp2_with fail
        go_loopg [11] (s.size - kk) (fun g2 x wx => ∃ jj : Nat, kk ≤ jj ∧ jj + g2 = s.size ∧ x = .int .i64 (jj : Int) ∧ wx = wr ∧ Hid (((l.drop kk).take (jj - kk)).all az = true))
        case atStart => exact ⟨kk, Nat.le_refl _, by omega, rfl, rfl, by unfold Hid; rw [Nat.sub_self]; rfl⟩
        case round =>
          obtain ⟨jj, q1, q2, rfl, rfl, q3⟩ := hrel
          cases gk with
          | zero =>
            have q4 : ¬ (jj : Int) < (s.size : Int) := by omega
            have q5 : Hid ((l.drop kk).takeWhile az = (l.drop kk).take (jj - kk) ∧ (l.drop kk).dropWhile az = l.drop jj) := by
              have hz := HSz.out
              obtain ⟨z1, z2⟩ := run_end az (l.drop kk) (jj - kk) q3.out (.inl (by rw [List.getElem?_drop, List.getElem?_eq_none (by omega)])) (by rw [List.length_drop]; omega)
              exact ⟨z1, by rw [z2, List.drop_drop]; congr 1; omega⟩
            clear q3
            go_wp2
            go_meet
            exact ⟨jj, q1, by omega, rfl, rfl, q5⟩
          | succ g2 =>
            have q4 : (jj : Int) < (s.size : Int) := by omega
            have q6 : jj < s.size := by omega
            obtain ⟨c, hc⟩ : ∃ c, s[jj] = c := ⟨_, rfl⟩
            have hgc : (l.drop kk)[jj - kk]? = some c := by
              rw [List.getElem?_drop, show kk + (jj - kk) = jj by omega, ← hc]
              exact hat jj q6
            clear hat
            by_cases hp : az c = true
            · obtain ⟨p1, p2⟩ := (az_iff c).1 hp
              have p3 : (97 : Int) ≤ (c.toNat : Int) := by omega
              have p4 : (c.toNat : Int) ≤ 122 := by omega
              have q5 : Hid (((l.drop kk).take (jj + 1 - kk)).all az = true) := by
                rw [show jj + 1 - kk = (jj - kk) + 1 by omega]
                exact run_ext az _ _ c q3.out hgc hp
              clear q3 hgc hp p1 p2
              go_wp2
              go_roundg g2
              case measure => omega
              case rel => exact ⟨jj + 1, by omega, by omega, by go_num, rfl, q5⟩
            · have hpf : az c = false := by simpa using hp
              have q5 : Hid ((l.drop kk).takeWhile az = (l.drop kk).take (jj - kk) ∧ (l.drop kk).dropWhile az = l.drop jj) := by
                obtain ⟨z1, z2⟩ := run_end az (l.drop kk) (jj - kk) q3.out (.inr ⟨c, hgc, hpf⟩) (by have hz := HSz.out; rw [List.length_drop]; omega)
                exact ⟨z1, by rw [z2, List.drop_drop]; congr 1; omega⟩
              have hno := az_no c hpf
              clear q3 hgc hp hpf
              rcases hno with p1 | p1
              · have p3 : ¬ (97 : Int) ≤ (c.toNat : Int) := by omega
                clear p1
                go_wp2
                go_meet
                exact ⟨jj, q1, by omega, rfl, rfl, q5⟩
              · have p3 : (97 : Int) ≤ (c.toNat : Int) := by omega
                have p4 : ¬ (c.toNat : Int) ≤ 122 := by omega
                clear p1
                go_wp2
                go_meet
                exact ⟨jj, q1, by omega, rfl, rfl, q5⟩
      case rest =>
      obtain ⟨jj, jj1, jj2, rfl, rfl, jjH⟩ := hcut
      clear hat
      have eW : s.extract kk jj = ⟨((l.drop kk).take (jj - kk)).toArray⟩ := bytes_mk _ _ (by rw [Lib.extract_data, HUd.out])
      have hW : Hid (((l.drop i).dropWhile dB).takeWhile az = (l.drop kk).take (jj - kk) ∧ ((l.drop i).dropWhile dB).dropWhile az = l.drop jj) := by
        unfold Hid; rw [kkH.out.2]; exact jjH.out
      have hwl : ((l.drop kk).take (jj - kk)).length ≤ 1000 := by rw [List.length_take]; omega
      generalize (l.drop kk).take (jj - kk) = wl at *
      clear jjH
      go_upto_block 6 with fail
      go_cut [12] (fun x wx => ∃ aa : Nat, nx ≤ aa ∧ aa ≤ 5 ∧ x = .int .i64 (aa : Int) ∧ Below w2.heap.size w2 wx ∧ Hid ((∀ v : Fin 5, nx ≤ v.val → v.val < aa → wl ≠ unitWord v) ∧ (∀ h : aa < 5, wl = unitWord ⟨aa, h⟩)))
      case first =>
        go_wp2_with fail
        go_loopg [12] (5 - nx) (fun g2 x wx => ∃ aa : Nat, nx ≤ aa ∧ aa + g2 = 5 ∧ x = .int .i64 (aa : Int) ∧ Below w2.heap.size w2 wx ∧ Hid (∀ v : Fin 5, nx ≤ v.val → v.val < aa → wl ≠ unitWord v))
        case atStart => exact ⟨nx, Nat.le_refl _, by omega, rfl, hB, fun v h1 h2 => by omega⟩
        case round =>
          rename_i wy
          obtain ⟨aa, q1, q2, rfl, hB3, q3⟩ := hrel
          cases gk with
          | zero =>
            obtain rfl : aa = 5 := by omega
            go_wp2
            refine wp_region_held_drew (S := fun w' => Below w2.heap.size w2 w') (by kernel_rfl) ?_ (fun hS => ?_)
            · (try dsimp only)
              (repeat' apply And.intro) <;> first | go_cell | exact hB3.drew
            refine' wpAnyH_take (i := 0) (oi := ?oiT0n) (v := ?vT0n) ?hiT0n (by kernel_rfl) (by kernel_rfl) (by kernel_rfl) ?hQT0n ?hyT0n hS ?restT0n
            case hiT0n =>
              simp only [List.getElem?_toArray, List.getElem?_cons_succ, List.getElem?_cons_zero]
              exact rfl
            case hQT0n => exact fun _ _ _ h => h
            case hyT0n =>
              refine Or.inl ⟨by rfl, ?_⟩
              intro w hSw
              (try dsimp only at hSw)
              go_simp
              (try with_reducible rfl)
            (try simp only [Act.put, List.setIfInBounds_toArray, List.set_cons_zero, List.set_cons_succ])
            refine' wpAnyH_take (i := 1) (oi := ?oiT1n) (v := ?vT1n) ?hiT1n (by kernel_rfl) (by kernel_rfl) (by kernel_rfl) ?hQT1n ?hyT1n hS ?restT1n
            case hiT1n =>
              simp only [List.getElem?_toArray, List.getElem?_cons_succ, List.getElem?_cons_zero]
              exact rfl
            case hQT1n => exact fun _ _ _ h => h
            case hyT1n =>
              refine Or.inl ⟨by rfl, ?_⟩
              intro w hSw
              (try dsimp only at hSw)
              go_simp
              (try with_reducible rfl)
            (try simp only [Act.put, List.setIfInBounds_toArray, List.set_cons_zero, List.set_cons_succ])
            refine' wpAnyH_take (i := 2) (oi := ?oiT2n) (v := ?vT2n) ?hiT2n (by kernel_rfl) (by kernel_rfl) (by kernel_rfl) ?hQT2n ?hyT2n hS ?restT2n
            case hiT2n =>
              simp only [List.getElem?_toArray, List.getElem?_cons_succ, List.getElem?_cons_zero]
              exact rfl
            case hQT2n => exact fun _ _ _ h => h
            case hyT2n =>
              refine Or.inl ⟨by rfl, ?_⟩
              intro w hSw
              (try dsimp only at hSw)
              go_simp
              (try with_reducible rfl)
            (try simp only [Act.put, List.setIfInBounds_toArray, List.set_cons_zero, List.set_cons_succ])
            refine' wpAnyH_take (i := 3) (oi := ?oiS3n) (v := undef) ?hiS3n (by kernel_rfl) (by kernel_rfl) (by kernel_rfl) ?hQS3n ?hyS3n hS ?restS3n
            case hiS3n =>
              simp only [List.getElem?_toArray, List.getElem?_cons_succ, List.getElem?_cons_zero]
              exact rfl
            case hQS3n => exact fun _ _ _ h => h
            case hyS3n => exact Or.inr ⟨by rfl, rfl⟩
            (try simp only [Act.put, List.setIfInBounds_toArray, List.set_cons_zero, List.set_cons_succ])
            refine' wpAnyH_take (i := 4) (oi := ?oiS4n) (v := undef) ?hiS4n (by kernel_rfl) (by kernel_rfl) (by kernel_rfl) ?hQS4n ?hyS4n hS ?restS4n
            case hiS4n =>
              simp only [List.getElem?_toArray, List.getElem?_cons_succ, List.getElem?_cons_zero]
              exact rfl
            case hQS4n => exact fun _ _ _ h => h
            case hyS4n => exact Or.inr ⟨by rfl, rfl⟩
            (try simp only [Act.put, List.setIfInBounds_toArray, List.set_cons_zero, List.set_cons_succ])
            refine' wpAnyH_take (i := 5) (oi := ?oiS5n) (v := undef) ?hiS5n (by kernel_rfl) (by kernel_rfl) (by kernel_rfl) ?hQS5n ?hyS5n hS ?restS5n
            case hiS5n =>
              simp only [List.getElem?_toArray, List.getElem?_cons_succ, List.getElem?_cons_zero]
              exact rfl
            case hQS5n => exact fun _ _ _ h => h
            case hyS5n => exact Or.inr ⟨by rfl, rfl⟩
            (try simp only [Act.put, List.setIfInBounds_toArray, List.set_cons_zero, List.set_cons_succ])
            refine' wpAnyH_take (i := 6) (oi := ?oiS6n) (v := undef) ?hiS6n (by kernel_rfl) (by kernel_rfl) (by kernel_rfl) ?hQS6n ?hyS6n hS ?restS6n
            case hiS6n =>
              simp only [List.getElem?_toArray, List.getElem?_cons_succ, List.getElem?_cons_zero]
              exact rfl
            case hQS6n => exact fun _ _ _ h => h
            case hyS6n => exact Or.inr ⟨by rfl, rfl⟩
            (try simp only [Act.put, List.setIfInBounds_toArray, List.set_cons_zero, List.set_cons_succ])
            refine' wpAnyH_take (i := 7) (oi := ?oiS7n) (v := undef) ?hiS7n (by kernel_rfl) (by kernel_rfl) (by kernel_rfl) ?hQS7n ?hyS7n hS ?restS7n
            case hiS7n =>
              simp only [List.getElem?_toArray, List.getElem?_cons_succ, List.getElem?_cons_zero]
              exact rfl
            case hQS7n => exact fun _ _ _ h => h
            case hyS7n => exact Or.inr ⟨by rfl, rfl⟩
            (try simp only [Act.put, List.setIfInBounds_toArray, List.set_cons_zero, List.set_cons_succ])
            refine' wpAnyH_take (i := 8) (oi := ?oiS8n) (v := undef) ?hiS8n (by kernel_rfl) (by kernel_rfl) (by kernel_rfl) ?hQS8n ?hyS8n hS ?restS8n
            case hiS8n =>
              simp only [List.getElem?_toArray, List.getElem?_cons_succ, List.getElem?_cons_zero]
              exact rfl
            case hQS8n => exact fun _ _ _ h => h
            case hyS8n => exact Or.inr ⟨by rfl, rfl⟩
            (try simp only [Act.put, List.setIfInBounds_toArray, List.set_cons_zero, List.set_cons_succ])
            refine' wpAnyH_take (i := 9) (oi := ?oiS9n) (v := undef) ?hiS9n (by kernel_rfl) (by kernel_rfl) (by kernel_rfl) ?hQS9n ?hyS9n hS ?restS9n
            case hiS9n =>
              simp only [List.getElem?_toArray, List.getElem?_cons_succ, List.getElem?_cons_zero]
              exact rfl
            case hQS9n => exact fun _ _ _ h => h
            case hyS9n => exact Or.inr ⟨by rfl, rfl⟩
            (try simp only [Act.put, List.setIfInBounds_toArray, List.set_cons_zero, List.set_cons_succ])
            refine' wpAnyH_take (i := 10) (oi := ?oiS10n) (v := undef) ?hiS10n (by kernel_rfl) (by kernel_rfl) (by kernel_rfl) ?hQS10n ?hyS10n hS ?restS10n
            case hiS10n =>
              simp only [List.getElem?_toArray, List.getElem?_cons_succ, List.getElem?_cons_zero]
              exact rfl
            case hQS10n => exact fun _ _ _ h => h
            case hyS10n => exact Or.inr ⟨by rfl, rfl⟩
            (try simp only [Act.put, List.setIfInBounds_toArray, List.set_cons_zero, List.set_cons_succ])
            refine' wpAnyH_take (i := 11) (oi := ?oiS11n) (v := undef) ?hiS11n (by kernel_rfl) (by kernel_rfl) (by kernel_rfl) ?hQS11n ?hyS11n hS ?restS11n
            case hiS11n =>
              simp only [List.getElem?_toArray, List.getElem?_cons_succ, List.getElem?_cons_zero]
              exact rfl
            case hQS11n => exact fun _ _ _ h => h
            case hyS11n => exact Or.inr ⟨by rfl, rfl⟩
            (try simp only [Act.put, List.setIfInBounds_toArray, List.set_cons_zero, List.set_cons_succ])
            refine' wpAnyH_take (i := 12) (oi := ?oiT12n) (v := ?vT12n) ?hiT12n (by kernel_rfl) (by kernel_rfl) (by kernel_rfl) ?hQT12n ?hyT12n hS ?restT12n
            case hiT12n =>
              simp only [List.getElem?_toArray, List.getElem?_cons_succ, List.getElem?_cons_zero]
              exact rfl
            case hQT12n => exact fun _ _ _ h => h
            case hyT12n =>
              refine Or.inl ⟨by rfl, ?_⟩
              intro w hSw
              (try dsimp only at hSw)
              go_simp
              (try with_reducible rfl)
            (try simp only [Act.put, List.setIfInBounds_toArray, List.set_cons_zero, List.set_cons_succ])
            refine wpAnyH_done (by kernel_rfl) ?_ _
            have hB4 := hS
            clear hS hB3
            go_wp2
            go_meet
            exact ⟨5, q1, by omega, rfl, hB4, q3.out, fun h => absurd h (by omega)⟩
          | succ g2 =>
            have q4 : aa < 5 := by omega
            have q4' : (aa : Int) < 5 := by omega
            have x2 := at_cell A2.out hB3 aa _ (word_at ⟨aa, q4⟩)
            obtain ⟨uw, hu⟩ : ∃ uw, unitWord ⟨aa, q4⟩ = uw := ⟨_, rfl⟩
            rw [hu] at x2
            have HU := Lib.hid hu
            clear hu
            go_wp2
            refine wp_region_held_drew (S := fun w' => w'.cell? ⟨W.heap.size + 1, aa, none⟩ = some (.string ⟨uw.toArray⟩) ∧ Below w2.heap.size w2 w') (by kernel_rfl) ?_ (fun hS => ?_)
            · (try dsimp only)
              (repeat' apply And.intro) <;> first | go_cell | exact hB3.drew
            refine' wpAnyH_take (i := 0) (oi := ?oiT0y) (v := ?vT0y) ?hiT0y (by kernel_rfl) (by kernel_rfl) (by kernel_rfl) ?hQT0y ?hyT0y hS ?restT0y
            case hiT0y =>
              simp only [List.getElem?_toArray, List.getElem?_cons_succ, List.getElem?_cons_zero]
              exact rfl
            case hQT0y => exact fun _ _ _ h => h
            case hyT0y =>
              refine Or.inl ⟨by rfl, ?_⟩
              intro w hSw
              (try dsimp only at hSw)
              go_simp
              (try with_reducible rfl)
            (try simp only [Act.put, List.setIfInBounds_toArray, List.set_cons_zero, List.set_cons_succ])
            refine' wpAnyH_take (i := 1) (oi := ?oiT1y) (v := ?vT1y) ?hiT1y (by kernel_rfl) (by kernel_rfl) (by kernel_rfl) ?hQT1y ?hyT1y hS ?restT1y
            case hiT1y =>
              simp only [List.getElem?_toArray, List.getElem?_cons_succ, List.getElem?_cons_zero]
              exact rfl
            case hQT1y => exact fun _ _ _ h => h
            case hyT1y =>
              refine Or.inl ⟨by rfl, ?_⟩
              intro w hSw
              (try dsimp only at hSw)
              go_simp
              (try with_reducible rfl)
            (try simp only [Act.put, List.setIfInBounds_toArray, List.set_cons_zero, List.set_cons_succ])
            refine' wpAnyH_take (i := 2) (oi := ?oiT2y) (v := ?vT2y) ?hiT2y (by kernel_rfl) (by kernel_rfl) (by kernel_rfl) ?hQT2y ?hyT2y hS ?restT2y
            case hiT2y =>
              simp only [List.getElem?_toArray, List.getElem?_cons_succ, List.getElem?_cons_zero]
              exact rfl
            case hQT2y => exact fun _ _ _ h => h
            case hyT2y =>
              refine Or.inl ⟨by rfl, ?_⟩
              intro w hSw
              (try dsimp only at hSw)
              go_simp
              (try with_reducible rfl)
            (try simp only [Act.put, List.setIfInBounds_toArray, List.set_cons_zero, List.set_cons_succ])
            refine' wpAnyH_take (i := 3) (oi := ?oiT3y) (v := ?vT3y) ?hiT3y (by kernel_rfl) (by kernel_rfl) (by kernel_rfl) ?hQT3y ?hyT3y hS ?restT3y
            case hiT3y =>
              simp only [List.getElem?_toArray, List.getElem?_cons_succ, List.getElem?_cons_zero]
              exact rfl
            case hQT3y => exact fun _ _ _ h => h
            case hyT3y =>
              refine Or.inl ⟨by rfl, ?_⟩
              intro w hSw
              (try dsimp only at hSw)
              go_simp
              (try with_reducible rfl)
            (try simp only [Act.put, List.setIfInBounds_toArray, List.set_cons_zero, List.set_cons_succ])
            refine' wpAnyH_take (i := 4) (oi := ?oiT4y) (v := ?vT4y) ?hiT4y (by kernel_rfl) (by kernel_rfl) (by kernel_rfl) ?hQT4y ?hyT4y hS ?restT4y
            case hiT4y =>
              simp only [List.getElem?_toArray, List.getElem?_cons_succ, List.getElem?_cons_zero]
              exact rfl
            case hQT4y => exact fun _ _ _ h => h
            case hyT4y =>
              refine Or.inl ⟨by rfl, ?_⟩
              intro w hSw
              (try dsimp only at hSw)
              go_simp
              (try with_reducible rfl)
            (try simp only [Act.put, List.setIfInBounds_toArray, List.set_cons_zero, List.set_cons_succ])
            refine' wpAnyH_take (i := 5) (oi := ?oiT5y) (v := ?vT5y) ?hiT5y (by kernel_rfl) (by kernel_rfl) (by kernel_rfl) ?hQT5y ?hyT5y hS ?restT5y
            case hiT5y =>
              simp only [List.getElem?_toArray, List.getElem?_cons_succ, List.getElem?_cons_zero]
              exact rfl
            case hQT5y => exact fun _ _ _ h => h
            case hyT5y =>
              refine Or.inl ⟨by rfl, ?_⟩
              intro w hSw
              (try dsimp only at hSw)
              go_simp
              (try with_reducible rfl)
            (try simp only [Act.put, List.setIfInBounds_toArray, List.set_cons_zero, List.set_cons_succ])
            refine' wpAnyH_take (i := 6) (oi := ?oiT6y) (v := ?vT6y) ?hiT6y (by kernel_rfl) (by kernel_rfl) (by kernel_rfl) ?hQT6y ?hyT6y hS ?restT6y
            case hiT6y =>
              simp only [List.getElem?_toArray, List.getElem?_cons_succ, List.getElem?_cons_zero]
              exact rfl
            case hQT6y => exact fun _ _ _ h => h
            case hyT6y =>
              refine Or.inl ⟨by rfl, ?_⟩
              intro w hSw
              (try dsimp only at hSw)
              go_simp
              (try with_reducible rfl)
            (try simp only [Act.put, List.setIfInBounds_toArray, List.set_cons_zero, List.set_cons_succ])
            refine' wpAnyH_take (i := 7) (oi := ?oiT7y) (v := ?vT7y) ?hiT7y (by kernel_rfl) (by kernel_rfl) (by kernel_rfl) ?hQT7y ?hyT7y hS ?restT7y
            case hiT7y =>
              simp only [List.getElem?_toArray, List.getElem?_cons_succ, List.getElem?_cons_zero]
              exact rfl
            case hQT7y => exact fun _ _ _ h => h
            case hyT7y =>
              refine Or.inl ⟨by rfl, ?_⟩
              intro w hSw
              (try dsimp only at hSw)
              go_simp
              (try with_reducible rfl)
            (try simp only [Act.put, List.setIfInBounds_toArray, List.set_cons_zero, List.set_cons_succ])
            refine' wpAnyH_take (i := 8) (oi := ?oiT8y) (v := ?vT8y) ?hiT8y (by kernel_rfl) (by kernel_rfl) (by kernel_rfl) ?hQT8y ?hyT8y hS ?restT8y
            case hiT8y =>
              simp only [List.getElem?_toArray, List.getElem?_cons_succ, List.getElem?_cons_zero]
              exact rfl
            case hQT8y => exact fun _ _ _ h => h
            case hyT8y =>
              refine Or.inl ⟨by rfl, ?_⟩
              intro w hSw
              (try dsimp only at hSw)
              go_simp
              (try with_reducible rfl)
            (try simp only [Act.put, List.setIfInBounds_toArray, List.set_cons_zero, List.set_cons_succ])
            refine' wpAnyH_take (i := 9) (oi := ?oiT9y) (v := ?vT9y) ?hiT9y (by kernel_rfl) (by kernel_rfl) (by kernel_rfl) ?hQT9y ?hyT9y hS ?restT9y
            case hiT9y =>
              simp only [List.getElem?_toArray, List.getElem?_cons_succ, List.getElem?_cons_zero]
              exact rfl
            case hQT9y => exact fun _ _ _ h => h
            case hyT9y =>
              refine Or.inl ⟨by rfl, ?_⟩
              intro w hSw
              (try dsimp only at hSw)
              go_simp
              (try with_reducible rfl)
            (try simp only [Act.put, List.setIfInBounds_toArray, List.set_cons_zero, List.set_cons_succ])
            refine' wpAnyH_take (i := 10) (oi := ?oiT10y) (v := ?vT10y) ?hiT10y (by kernel_rfl) (by kernel_rfl) (by kernel_rfl) ?hQT10y ?hyT10y hS ?restT10y
            case hiT10y =>
              simp only [List.getElem?_toArray, List.getElem?_cons_succ, List.getElem?_cons_zero]
              exact rfl
            case hQT10y => exact fun _ _ _ h => h
            case hyT10y =>
              refine Or.inl ⟨by rfl, ?_⟩
              intro w hSw
              (try dsimp only at hSw)
              go_simp
              (try with_reducible rfl)
            (try simp only [Act.put, List.setIfInBounds_toArray, List.set_cons_zero, List.set_cons_succ])
            refine' wpAnyH_take (i := 11) (oi := ?oiT11y) (v := ?vT11y) ?hiT11y (by kernel_rfl) (by kernel_rfl) (by kernel_rfl) ?hQT11y ?hyT11y hS ?restT11y
            case hiT11y =>
              simp only [List.getElem?_toArray, List.getElem?_cons_succ, List.getElem?_cons_zero]
              exact rfl
            case hQT11y => exact fun _ _ _ h => h
            case hyT11y =>
              refine Or.inl ⟨by rfl, ?_⟩
              intro w hSw
              (try dsimp only at hSw)
              go_simp
              (try with_reducible rfl)
            (try simp only [Act.put, List.setIfInBounds_toArray, List.set_cons_zero, List.set_cons_succ])
            refine' wpAnyH_take (i := 12) (oi := ?oiT12y) (v := ?vT12y) ?hiT12y (by kernel_rfl) (by kernel_rfl) (by kernel_rfl) ?hQT12y ?hyT12y hS ?restT12y
            case hiT12y =>
              simp only [List.getElem?_toArray, List.getElem?_cons_succ, List.getElem?_cons_zero]
              exact rfl
            case hQT12y => exact fun _ _ _ h => h
            case hyT12y =>
              refine Or.inl ⟨by rfl, ?_⟩
              intro w hSw
              (try dsimp only at hSw)
              go_simp
              (try with_reducible rfl)
            (try simp only [Act.put, List.setIfInBounds_toArray, List.set_cons_zero, List.set_cons_succ])
            refine wpAnyH_done (by kernel_rfl) ?_ _
            have hB4 := hS.2
            clear hS hB3 x2
            go_wp2
            · have h1 : (!uw == wl) = true := by assumption
              have HE : Hid (¬ uw = wl) := by unfold Hid; simpa using h1
              go_roundg g2
              case measure => omega
              case rel =>
                refine ⟨aa + 1, by omega, by omega, by go_num, hB4, fun v h1 h2 => ?_⟩
                by_cases hv : v.val < aa
                · exact q3.out v h1 hv
                · have hv2 : v = ⟨aa, q4⟩ := Fin.ext (by show v.val = aa; omega)
                  rw [hv2, HU.out]
                  exact fun h => HE.out h.symm
            · have h1 : (!uw == wl) = false := by assumption
              have HE : Hid (uw = wl) := by unfold Hid; simpa using h1
              go_meet
              exact ⟨aa, q1, by omega, rfl, hB4, q3.out, fun h => by rw [HU.out]; exact HE.out.symm⟩
      case rest =>
      obtain ⟨aa, aa1, aa2, rfl, hB3, aaH⟩ := hcut
      have hBr := hb2.trans (hB3.mono hb2.size)
      have hdne : Hid (l.drop i ≠ []) := by
        have hz := HSz.out
        intro h
        have := congrArg List.length h
        rw [List.length_drop] at this
        simp at this
        omega
      by_cases hki : kk = i
      · subst hki
        have PV : Hid (refR l = (0, 2)) := refR_none l HN.out (by rw [hH.out]; exact rGo_bad _ _ _ _ hdne.out (.inl (by rw [kkH.out.1, Nat.sub_self]; rfl)))
        clear hB hB3
        go_wp2
        go_ret2
        exact ⟨by rw [PV.out]; rfl, hBr⟩
      · have hki2 : i < kk := by omega
        have t1 : ((kk : Int) == (i : Int)) = false := by rw [beq_eq_false_iff_ne]; omega
        have t2 : (kk == i) = false := by rw [beq_eq_false_iff_ne]; exact hki
        clear hki
        by_cases ha5 : aa = 5
        · subst ha5
          have PV : Hid (refR l = (0, 2)) := refR_none l HN.out (by rw [hH.out]; exact go_five _ _ _ nx wl hdne.out hW.out.1 (by omega) aaH.out.1)
          clear hB hB3
          go_wp2
          go_ret2
          exact ⟨by rw [PV.out]; rfl, hBr⟩
        · have ha : aa < 5 := by omega
          have t3 : ((aa : Int) == 5) = false := by rw [beq_eq_false_iff_ne]; omega
          have t4 : (aa == 5) = false := by rw [beq_eq_false_iff_ne]; exact ha5
          clear ha5
          obtain ⟨c0, hc0⟩ : ∃ c, s[i] = c := ⟨_, rfl⟩
          have hD0 : (l.drop i).takeWhile dB = (l.drop i).take (kk - i) := kkH.out.1
          have hhd : ((l.drop i).take (kk - i)).head? = some c0 := by
            have hz := HSz.out
            rw [List.head?_take, if_neg (by omega), List.head?_drop, HAt.out i hil, hc0]
          have eD : s.extract i kk = ⟨((l.drop i).take (kk - i)).toArray⟩ := bytes_mk _ _ (by rw [Lib.extract_data, HUd.out])
          have hDl : ((l.drop i).take (kk - i)).length ≤ 1000 := by rw [List.length_take]; omega
          have hDa : ((l.drop i).take (kk - i)).all dB = true := by rw [← hD0]; exact tw_all dB _
          generalize (l.drop i).take (kk - i) = D at *
          by_cases h48 : c0 = 48
          · have PV : Hid (refR l = (0, 2)) := refR_none l HN.out (by rw [hH.out]; exact rGo_bad _ _ _ _ hdne.out (.inr (by rw [hD0, hhd, h48])))
            have t5 : ((c0.toNat : Int) == 48) = true := by rw [beq_iff_eq, h48]; rfl
            clear hB hB3 hhd h48 hD0 hDa
            go_wp2
            go_ret2
            exact ⟨by rw [PV.out]; rfl, hBr⟩
          · have t5 : ((c0.toNat : Int) == 48) = false := by
              rw [beq_eq_false_iff_ne]; intro e; exact h48 (UInt8.toNat_inj.1 (by simpa using (by omega : c0.toNat = 48)))
            have hok : ¬ (D = [] ∨ D.head? = some 48) := by
              rintro (h | h)
              · rw [h] at hhd; cases hhd
              · rw [hhd] at h; exact h48 (Option.some.inj h)
            have NB := number_dig D hDl (isDec_of D hDa hok)
            have GA := go_at (l.drop i) (l.drop jj) D tot big nx aa wl hdne.out hD0 hok hW.out aa1 ha aaH.out.1 (aaH.out.2 ha)
            rw [← hH.out] at GA
            unfold numR at NB
            rw [valD_dval] at NB
            obtain ⟨z1, z2⟩ := unitSize_bd ⟨aa, ha⟩
            generalize dval D = V at *
            have hjj : i < jj := by omega
            clear hhd h48 hD0 hDa hok hW kkH aaH hdne hB
            have htot2 := Lib.hid (Nat.le_trans htot (cap_mono aa1))
            have htot3 : tot ≤ 43980465111040 := Nat.le_trans htot2.out (cap_five aa2)
            clear htot
            by_cases hV : V < 9223372036854775808
            · simp only [hV, if_true] at NB
              have NB2 := Lib.hid (NB wc)
              clear NB
              rcases Nat.eq_zero_or_pos aa with h0 | h0
              · subst h0
                rw [if_neg (fun h => h.1 rfl)] at GA
                go_wp2_with fail
                refine NB2.out.mono ?_
                rintro e w5 ⟨rfl, hb5⟩
                have hB5 := hB3.trans (hb5.mono hB3.size)
                have hBr5 := hBr.trans (hb5.mono hBr.size)
                have HZ0 : Hid (sizesL[0]? = some (.int .i64 (unitSize ⟨0, ha⟩ : Int))) := size_at ⟨0, ha⟩
                generalize unitSize ⟨0, ha⟩ = z at *
                clear NB2 hBr5 hb5
                go_wp2
                refine wp_region_held_drew (S := fun w' => Below w2.heap.size w2 w') (by kernel_rfl) ?_ (fun hS => ?_)
                · (try dsimp only)
                  (repeat' apply And.intro) <;> first | go_cell | exact hB5.drew
                refine' wpAnyH_take (i := 0) (oi := ?oiT0f) (v := ?vT0f) ?hiT0f (by kernel_rfl) (by kernel_rfl) (by kernel_rfl) ?hQT0f ?hyT0f hS ?restT0f
                case hiT0f =>
                  simp only [List.getElem?_toArray, List.getElem?_cons_succ, List.getElem?_cons_zero]
                  exact rfl
                case hQT0f => exact fun _ _ _ h => h
                case hyT0f =>
                  refine Or.inl ⟨by rfl, ?_⟩
                  intro w hSw
                  (try dsimp only at hSw)
                  go_simp
                  (try with_reducible rfl)
                (try simp only [Act.put, List.setIfInBounds_toArray, List.set_cons_zero, List.set_cons_succ])
                refine' wpAnyH_take (i := 1) (oi := ?oiT1f) (v := ?vT1f) ?hiT1f (by kernel_rfl) (by kernel_rfl) (by kernel_rfl) ?hQT1f ?hyT1f hS ?restT1f
                case hiT1f =>
                  simp only [List.getElem?_toArray, List.getElem?_cons_succ, List.getElem?_cons_zero]
                  exact rfl
                case hQT1f => exact fun _ _ _ h => h
                case hyT1f =>
                  refine Or.inl ⟨by rfl, ?_⟩
                  intro w hSw
                  (try dsimp only at hSw)
                  go_simp
                  (try with_reducible rfl)
                (try simp only [Act.put, List.setIfInBounds_toArray, List.set_cons_zero, List.set_cons_succ])
                refine' wpAnyH_take (i := 2) (oi := ?oiT2f) (v := ?vT2f) ?hiT2f (by kernel_rfl) (by kernel_rfl) (by kernel_rfl) ?hQT2f ?hyT2f hS ?restT2f
                case hiT2f =>
                  simp only [List.getElem?_toArray, List.getElem?_cons_succ, List.getElem?_cons_zero]
                  exact rfl
                case hQT2f => exact fun _ _ _ h => h
                case hyT2f =>
                  refine Or.inl ⟨by rfl, ?_⟩
                  intro w hSw
                  (try dsimp only at hSw)
                  go_simp
                  (try with_reducible rfl)
                (try simp only [Act.put, List.setIfInBounds_toArray, List.set_cons_zero, List.set_cons_succ])
                refine' wpAnyH_take (i := 3) (oi := ?oiS3f) (v := undef) ?hiS3f (by kernel_rfl) (by kernel_rfl) (by kernel_rfl) ?hQS3f ?hyS3f hS ?restS3f
                case hiS3f =>
                  simp only [List.getElem?_toArray, List.getElem?_cons_succ, List.getElem?_cons_zero]
                  exact rfl
                case hQS3f => exact fun _ _ _ h => h
                case hyS3f => exact Or.inr ⟨by rfl, rfl⟩
                (try simp only [Act.put, List.setIfInBounds_toArray, List.set_cons_zero, List.set_cons_succ])
                refine' wpAnyH_take (i := 4) (oi := ?oiS4f) (v := undef) ?hiS4f (by kernel_rfl) (by kernel_rfl) (by kernel_rfl) ?hQS4f ?hyS4f hS ?restS4f
                case hiS4f =>
                  simp only [List.getElem?_toArray, List.getElem?_cons_succ, List.getElem?_cons_zero]
                  exact rfl
                case hQS4f => exact fun _ _ _ h => h
                case hyS4f => exact Or.inr ⟨by rfl, rfl⟩
                (try simp only [Act.put, List.setIfInBounds_toArray, List.set_cons_zero, List.set_cons_succ])
                refine' wpAnyH_take (i := 5) (oi := ?oiS5f) (v := undef) ?hiS5f (by kernel_rfl) (by kernel_rfl) (by kernel_rfl) ?hQS5f ?hyS5f hS ?restS5f
                case hiS5f =>
                  simp only [List.getElem?_toArray, List.getElem?_cons_succ, List.getElem?_cons_zero]
                  exact rfl
                case hQS5f => exact fun _ _ _ h => h
                case hyS5f => exact Or.inr ⟨by rfl, rfl⟩
                (try simp only [Act.put, List.setIfInBounds_toArray, List.set_cons_zero, List.set_cons_succ])
                refine' wpAnyH_take (i := 6) (oi := ?oiS6f) (v := undef) ?hiS6f (by kernel_rfl) (by kernel_rfl) (by kernel_rfl) ?hQS6f ?hyS6f hS ?restS6f
                case hiS6f =>
                  simp only [List.getElem?_toArray, List.getElem?_cons_succ, List.getElem?_cons_zero]
                  exact rfl
                case hQS6f => exact fun _ _ _ h => h
                case hyS6f => exact Or.inr ⟨by rfl, rfl⟩
                (try simp only [Act.put, List.setIfInBounds_toArray, List.set_cons_zero, List.set_cons_succ])
                refine' wpAnyH_take (i := 7) (oi := ?oiS7f) (v := undef) ?hiS7f (by kernel_rfl) (by kernel_rfl) (by kernel_rfl) ?hQS7f ?hyS7f hS ?restS7f
                case hiS7f =>
                  simp only [List.getElem?_toArray, List.getElem?_cons_succ, List.getElem?_cons_zero]
                  exact rfl
                case hQS7f => exact fun _ _ _ h => h
                case hyS7f => exact Or.inr ⟨by rfl, rfl⟩
                (try simp only [Act.put, List.setIfInBounds_toArray, List.set_cons_zero, List.set_cons_succ])
                refine' wpAnyH_take (i := 8) (oi := ?oiS8f) (v := undef) ?hiS8f (by kernel_rfl) (by kernel_rfl) (by kernel_rfl) ?hQS8f ?hyS8f hS ?restS8f
                case hiS8f =>
                  simp only [List.getElem?_toArray, List.getElem?_cons_succ, List.getElem?_cons_zero]
                  exact rfl
                case hQS8f => exact fun _ _ _ h => h
                case hyS8f => exact Or.inr ⟨by rfl, rfl⟩
                (try simp only [Act.put, List.setIfInBounds_toArray, List.set_cons_zero, List.set_cons_succ])
                refine' wpAnyH_take (i := 9) (oi := ?oiS9f) (v := undef) ?hiS9f (by kernel_rfl) (by kernel_rfl) (by kernel_rfl) ?hQS9f ?hyS9f hS ?restS9f
                case hiS9f =>
                  simp only [List.getElem?_toArray, List.getElem?_cons_succ, List.getElem?_cons_zero]
                  exact rfl
                case hQS9f => exact fun _ _ _ h => h
                case hyS9f => exact Or.inr ⟨by rfl, rfl⟩
                (try simp only [Act.put, List.setIfInBounds_toArray, List.set_cons_zero, List.set_cons_succ])
                refine' wpAnyH_take (i := 10) (oi := ?oiS10f) (v := undef) ?hiS10f (by kernel_rfl) (by kernel_rfl) (by kernel_rfl) ?hQS10f ?hyS10f hS ?restS10f
                case hiS10f =>
                  simp only [List.getElem?_toArray, List.getElem?_cons_succ, List.getElem?_cons_zero]
                  exact rfl
                case hQS10f => exact fun _ _ _ h => h
                case hyS10f => exact Or.inr ⟨by rfl, rfl⟩
                (try simp only [Act.put, List.setIfInBounds_toArray, List.set_cons_zero, List.set_cons_succ])
                refine' wpAnyH_take (i := 11) (oi := ?oiS11f) (v := undef) ?hiS11f (by kernel_rfl) (by kernel_rfl) (by kernel_rfl) ?hQS11f ?hyS11f hS ?restS11f
                case hiS11f =>
                  simp only [List.getElem?_toArray, List.getElem?_cons_succ, List.getElem?_cons_zero]
                  exact rfl
                case hQS11f => exact fun _ _ _ h => h
                case hyS11f => exact Or.inr ⟨by rfl, rfl⟩
                (try simp only [Act.put, List.setIfInBounds_toArray, List.set_cons_zero, List.set_cons_succ])
                refine' wpAnyH_take (i := 12) (oi := ?oiS12f) (v := undef) ?hiS12f (by kernel_rfl) (by kernel_rfl) (by kernel_rfl) ?hQS12f ?hyS12f hS ?restS12f
                case hiS12f =>
                  simp only [List.getElem?_toArray, List.getElem?_cons_succ, List.getElem?_cons_zero]
                  exact rfl
                case hQS12f => exact fun _ _ _ h => h
                case hyS12f => exact Or.inr ⟨by rfl, rfl⟩
                (try simp only [Act.put, List.setIfInBounds_toArray, List.set_cons_zero, List.set_cons_succ])
                refine' wpAnyH_take (i := 13) (oi := ?oiS13f) (v := undef) ?hiS13f (by kernel_rfl) (by kernel_rfl) (by kernel_rfl) ?hQS13f ?hyS13f hS ?restS13f
                case hiS13f =>
                  simp only [List.getElem?_toArray, List.getElem?_cons_succ, List.getElem?_cons_zero]
                  exact rfl
                case hQS13f => exact fun _ _ _ h => h
                case hyS13f => exact Or.inr ⟨by rfl, rfl⟩
                (try simp only [Act.put, List.setIfInBounds_toArray, List.set_cons_zero, List.set_cons_succ])
                refine' wpAnyH_take (i := 14) (oi := ?oiS14f) (v := undef) ?hiS14f (by kernel_rfl) (by kernel_rfl) (by kernel_rfl) ?hQS14f ?hyS14f hS ?restS14f
                case hiS14f =>
                  simp only [List.getElem?_toArray, List.getElem?_cons_succ, List.getElem?_cons_zero]
                  exact rfl
                case hQS14f => exact fun _ _ _ h => h
                case hyS14f => exact Or.inr ⟨by rfl, rfl⟩
                (try simp only [Act.put, List.setIfInBounds_toArray, List.set_cons_zero, List.set_cons_succ])
                refine' wpAnyH_take (i := 15) (oi := ?oiS15f) (v := undef) ?hiS15f (by kernel_rfl) (by kernel_rfl) (by kernel_rfl) ?hQS15f ?hyS15f hS ?restS15f
                case hiS15f =>
                  simp only [List.getElem?_toArray, List.getElem?_cons_succ, List.getElem?_cons_zero]
                  exact rfl
                case hQS15f => exact fun _ _ _ h => h
                case hyS15f => exact Or.inr ⟨by rfl, rfl⟩
                (try simp only [Act.put, List.setIfInBounds_toArray, List.set_cons_zero, List.set_cons_succ])
                refine' wpAnyH_take (i := 16) (oi := ?oiS16f) (v := undef) ?hiS16f (by kernel_rfl) (by kernel_rfl) (by kernel_rfl) ?hQS16f ?hyS16f hS ?restS16f
                case hiS16f =>
                  simp only [List.getElem?_toArray, List.getElem?_cons_succ, List.getElem?_cons_zero]
                  exact rfl
                case hQS16f => exact fun _ _ _ h => h
                case hyS16f => exact Or.inr ⟨by rfl, rfl⟩
                (try simp only [Act.put, List.setIfInBounds_toArray, List.set_cons_zero, List.set_cons_succ])
                refine' wpAnyH_take (i := 17) (oi := ?oiS17f) (v := undef) ?hiS17f (by kernel_rfl) (by kernel_rfl) (by kernel_rfl) ?hQS17f ?hyS17f hS ?restS17f
                case hiS17f =>
                  simp only [List.getElem?_toArray, List.getElem?_cons_succ, List.getElem?_cons_zero]
                  exact rfl
                case hQS17f => exact fun _ _ _ h => h
                case hyS17f => exact Or.inr ⟨by rfl, rfl⟩
                (try simp only [Act.put, List.setIfInBounds_toArray, List.set_cons_zero, List.set_cons_succ])
                refine' wpAnyH_take (i := 18) (oi := ?oiS18f) (v := undef) ?hiS18f (by kernel_rfl) (by kernel_rfl) (by kernel_rfl) ?hQS18f ?hyS18f hS ?restS18f
                case hiS18f =>
                  simp only [List.getElem?_toArray, List.getElem?_cons_succ, List.getElem?_cons_zero]
                  exact rfl
                case hQS18f => exact fun _ _ _ h => h
                case hyS18f => exact Or.inr ⟨by rfl, rfl⟩
                (try simp only [Act.put, List.setIfInBounds_toArray, List.set_cons_zero, List.set_cons_succ])
                refine' wpAnyH_take (i := 19) (oi := ?oiT19f) (v := ?vT19f) ?hiT19f (by kernel_rfl) (by kernel_rfl) (by kernel_rfl) ?hQT19f ?hyT19f hS ?restT19f
                case hiT19f =>
                  simp only [List.getElem?_toArray, List.getElem?_cons_succ, List.getElem?_cons_zero]
                  exact rfl
                case hQT19f => exact fun _ _ _ h => h
                case hyT19f =>
                  refine Or.inl ⟨by rfl, ?_⟩
                  intro w hSw
                  (try dsimp only at hSw)
                  go_simp
                  (try with_reducible rfl)
                (try simp only [Act.put, List.setIfInBounds_toArray, List.set_cons_zero, List.set_cons_succ])
                refine wpAnyH_done (by kernel_rfl) ?_ _
                have hB6 := hS
                have hBr6 := hb2.trans (hB6.mono hb2.size)
                clear hS
                have y5 := at_cell A1.out hB6 0 _ (show sizesL[0]? = some (.int .i64 (z : Int)) from HZ0.out)
                have hz1 : (1 : Int) ≤ (z : Int) := by omega
                have q2 : ¬ (z : Int) = 0 := by omega
                have q3 : ((z : Int) == 0) = false := by rw [beq_eq_false_iff_ne]; exact q2
                have q4 : ¬ z = 0 := by omega
                have q5 : (z == 0) = false := by rw [beq_eq_false_iff_ne]; exact q4
                obtain ⟨M, hM⟩ : ∃ M, maxT / z = M := ⟨_, rfl⟩
                have q1 : (4398046511104 : Int) / (z : Int) = (M : Int) := by rw [← hM]; unfold maxT; rw [Int.natCast_ediv]; rfl
                have hM2 : M ≤ 4398046511104 := by rw [← hM]; exact Nat.div_le_self _ _
                have q6 : IntKind.i64.wrap (M : Int) = (M : Int) := by rw [IntKind.wrap_i64]; omega
                have hMz : ∀ v, v ≤ M → v * z ≤ 4398046511104 := fun v hv => by
                  rw [← hM] at hv
                  exact Nat.le_trans (Nat.mul_le_mul_right z hv) (Nat.div_mul_le_self _ _)
                rw [hM] at GA
                by_cases hVM : V ≤ M
                · rw [if_neg (by omega)] at GA
                  have GH := Lib.hid GA
                  clear GA
                  have m0 := hMz V hVM
                  have m1 : (V : Int) * (z : Int) = ((V * z : Nat) : Int) := by simp
                  have m2 : IntKind.i64.wrap ((V : Int) * (z : Int)) = (V : Int) * (z : Int) := by rw [IntKind.wrap_i64, m1]; omega
                  have m3 : IntKind.i64.wrap ((tot : Int) + (V : Int) * (z : Int)) = (tot : Int) + (V : Int) * (z : Int) := by rw [IntKind.wrap_i64, m1]; omega
                  have hVM' : (V : Int) ≤ (M : Int) := by omega
                  have hVd : decide ((M : Int) < (V : Int)) = false := decide_eq_false (by omega)
                  have hVe : ¬ (M : Int) < (V : Int) := by omega
                  have HM0 := Lib.hid m0
                  clear m0 m1 hMz hM hVM hM2 q6
                  go_wp2
                  go_roundg (s.size - jj)
                  case measure => omega
                  case rel => exact ⟨0 + 1, jj, tot + V * z, big, by omega, by omega, by simp, rfl, by go_num, rfl, cap_add htot2.out HM0.out, hB6, GH.out⟩
                · rw [if_pos (by omega)] at GA
                  have GH := Lib.hid GA
                  have hVM' : (M : Int) < (V : Int) := by omega
                  have hVd : decide ((M : Int) < (V : Int)) = true := decide_eq_true hVM'
                  clear GA hVM hM2 q6 htot3 hV
                  clear hMz hM
                  go_wp2
                  go_roundg (s.size - jj)
                  case measure => omega
                  case rel => exact ⟨0 + 1, jj, tot, true, by omega, by omega, rfl, rfl, by go_num, rfl, cap_next htot2.out, hB6, GH.out⟩
              · obtain ⟨b, rfl⟩ : ∃ b, aa = b + 1 := ⟨aa - 1, by omega⟩
                have hne0 : (⟨b + 1, ha⟩ : Fin 5) ≠ 0 := fun h => absurd (congrArg Fin.val h) (by show ¬ (b + 1 = 0); omega)
                have hra := ratio_at b ha
                obtain ⟨hm1, hm2⟩ := most_small b ha
                have X0 := Lib.hid (fun w hb => at_cell A1.out (w' := w) hb b _ (size_at ⟨b, by omega⟩))
                have X1 := Lib.hid (fun w hb => at_cell A1.out (w' := w) hb (b + 1) _ (size_at ⟨b + 1, ha⟩))
                go_wp2_with fail
                refine NB2.out.mono ?_
                rintro e w5 ⟨rfl, hb5⟩
                have hB5 := hB3.trans (hb5.mono hB3.size)
                have hBr5 := hBr.trans (hb5.mono hBr.size)
                clear NB2 hBr5 hb5
                obtain ⟨z01, z02⟩ := unitSize_bd ⟨b, by omega⟩
                generalize unitSize ⟨b, by omega⟩ = z0 at *
                generalize unitSize ⟨b + 1, ha⟩ = z at *
                generalize unitMost ⟨b + 1, ha⟩ = m at *
                have y0 := X0.out w5 hB5
                have y1 := X1.out w5 hB5
                have q7 : (z0 : Int) / (z : Int) = (m : Int) + 1 := by rw [← Int.natCast_ediv, hra]; simp
                have q8 : IntKind.i64.wrap ((b : Int) + 1 - 1) = (b : Int) := by rw [IntKind.wrap_i64]; omega
                have q10 : IntKind.i64.wrap (b : Int) = (b : Int) := by rw [IntKind.wrap_i64]; omega
                have q11 : (0 : Int) ≤ (b : Int) := by omega
                have q12 : (b : Int) < 5 := by omega
                have q13 : (b : Int) + 1 < 5 := by omega
                have q14 : (0 : Int) ≤ (b : Int) + 1 := by omega
                have q9 : IntKind.i64.wrap ((m : Int) + 1) = (m : Int) + 1 := by rw [IntKind.wrap_i64]; omega
                have hb1 : (0 : Int) < (b : Int) + 1 := by omega
                have hz1 : (1 : Int) ≤ (z : Int) := by omega
                have q2 : ¬ (z : Int) = 0 := by omega
                have q3 : ((z : Int) == 0) = false := by rw [beq_eq_false_iff_ne]; exact q2
                have q4 : ¬ z = 0 := by omega
                have q5 : (z == 0) = false := by rw [beq_eq_false_iff_ne]; exact q4
                obtain ⟨M, hM⟩ : ∃ M, maxT / z = M := ⟨_, rfl⟩
                have q1 : (4398046511104 : Int) / (z : Int) = (M : Int) := by rw [← hM]; unfold maxT; rw [Int.natCast_ediv]; rfl
                have hM2 : M ≤ 4398046511104 := by rw [← hM]; exact Nat.div_le_self _ _
                have q6 : IntKind.i64.wrap (M : Int) = (M : Int) := by rw [IntKind.wrap_i64]; omega
                have hMz : ∀ v, v ≤ M → v * z ≤ 4398046511104 := fun v hv => by
                  rw [← hM] at hv
                  exact Nat.le_trans (Nat.mul_le_mul_right z hv) (Nat.div_mul_le_self _ _)
                rw [hM] at GA
                rw [hM] at hm2
                clear hra
                by_cases hb0 : m < V
                · rw [if_pos ⟨hne0, hb0⟩] at GA
                  have PV : Hid (refR l = (0, 2)) := refR_none l HN.out GA
                  have hVd : decide ((m : Int) + 1 ≤ (V : Int)) = true := decide_eq_true (by omega)
                  have hVe : (m : Int) + 1 ≤ (V : Int) := by omega
                  clear GA hMz hM hM2 q6 hm1 hm2
                  go_wp2
                  refine wp_region_held_drew (S := fun w' => w'.cell? ⟨W.heap.size, b, none⟩ = some (.int .i64 (z0 : Int)) ∧ w'.cell? ⟨W.heap.size, b + 1, none⟩ = some (.int .i64 (z : Int)) ∧ Below w2.heap.size w2 w') (by kernel_rfl) ?_ (fun hS => ?_)
                  · (try dsimp only)
                    (repeat' apply And.intro) <;> first | go_cell | exact hB5.drew
                  refine' wpAnyH_take (i := 0) (oi := ?oiT0u) (v := ?vT0u) ?hiT0u (by kernel_rfl) (by kernel_rfl) (by kernel_rfl) ?hQT0u ?hyT0u hS ?restT0u
                  case hiT0u =>
                    simp only [List.getElem?_toArray, List.getElem?_cons_succ, List.getElem?_cons_zero]
                    exact rfl
                  case hQT0u => exact fun _ _ _ h => h
                  case hyT0u =>
                    refine Or.inl ⟨by rfl, ?_⟩
                    intro w hSw
                    (try dsimp only at hSw)
                    go_simp
                    (try with_reducible rfl)
                  (try simp only [Act.put, List.setIfInBounds_toArray, List.set_cons_zero, List.set_cons_succ])
                  refine' wpAnyH_take (i := 1) (oi := ?oiT1u) (v := ?vT1u) ?hiT1u (by kernel_rfl) (by kernel_rfl) (by kernel_rfl) ?hQT1u ?hyT1u hS ?restT1u
                  case hiT1u =>
                    simp only [List.getElem?_toArray, List.getElem?_cons_succ, List.getElem?_cons_zero]
                    exact rfl
                  case hQT1u => exact fun _ _ _ h => h
                  case hyT1u =>
                    refine Or.inl ⟨by rfl, ?_⟩
                    intro w hSw
                    (try dsimp only at hSw)
                    go_simp
                    (try with_reducible rfl)
                  (try simp only [Act.put, List.setIfInBounds_toArray, List.set_cons_zero, List.set_cons_succ])
                  refine' wpAnyH_take (i := 2) (oi := ?oiT2u) (v := ?vT2u) ?hiT2u (by kernel_rfl) (by kernel_rfl) (by kernel_rfl) ?hQT2u ?hyT2u hS ?restT2u
                  case hiT2u =>
                    simp only [List.getElem?_toArray, List.getElem?_cons_succ, List.getElem?_cons_zero]
                    exact rfl
                  case hQT2u => exact fun _ _ _ h => h
                  case hyT2u =>
                    refine Or.inl ⟨by rfl, ?_⟩
                    intro w hSw
                    (try dsimp only at hSw)
                    go_simp
                    (try with_reducible rfl)
                  (try simp only [Act.put, List.setIfInBounds_toArray, List.set_cons_zero, List.set_cons_succ])
                  refine' wpAnyH_take (i := 3) (oi := ?oiT3u) (v := ?vT3u) ?hiT3u (by kernel_rfl) (by kernel_rfl) (by kernel_rfl) ?hQT3u ?hyT3u hS ?restT3u
                  case hiT3u =>
                    simp only [List.getElem?_toArray, List.getElem?_cons_succ, List.getElem?_cons_zero]
                    exact rfl
                  case hQT3u => exact fun _ _ _ h => h
                  case hyT3u =>
                    refine Or.inl ⟨by rfl, ?_⟩
                    intro w hSw
                    (try dsimp only at hSw)
                    go_simp
                    (try with_reducible rfl)
                  (try simp only [Act.put, List.setIfInBounds_toArray, List.set_cons_zero, List.set_cons_succ])
                  refine' wpAnyH_take (i := 4) (oi := ?oiT4u) (v := ?vT4u) ?hiT4u (by kernel_rfl) (by kernel_rfl) (by kernel_rfl) ?hQT4u ?hyT4u hS ?restT4u
                  case hiT4u =>
                    simp only [List.getElem?_toArray, List.getElem?_cons_succ, List.getElem?_cons_zero]
                    exact rfl
                  case hQT4u => exact fun _ _ _ h => h
                  case hyT4u =>
                    refine Or.inl ⟨by rfl, ?_⟩
                    intro w hSw
                    (try dsimp only at hSw)
                    go_simp
                    (try with_reducible rfl)
                  (try simp only [Act.put, List.setIfInBounds_toArray, List.set_cons_zero, List.set_cons_succ])
                  refine' wpAnyH_take (i := 5) (oi := ?oiT5u) (v := ?vT5u) ?hiT5u (by kernel_rfl) (by kernel_rfl) (by kernel_rfl) ?hQT5u ?hyT5u hS ?restT5u
                  case hiT5u =>
                    simp only [List.getElem?_toArray, List.getElem?_cons_succ, List.getElem?_cons_zero]
                    exact rfl
                  case hQT5u => exact fun _ _ _ h => h
                  case hyT5u =>
                    refine Or.inl ⟨by rfl, ?_⟩
                    intro w hSw
                    (try dsimp only at hSw)
                    go_simp
                    (try with_reducible rfl)
                  (try simp only [Act.put, List.setIfInBounds_toArray, List.set_cons_zero, List.set_cons_succ])
                  refine' wpAnyH_take (i := 6) (oi := ?oiT6u) (v := ?vT6u) ?hiT6u (by kernel_rfl) (by kernel_rfl) (by kernel_rfl) ?hQT6u ?hyT6u hS ?restT6u
                  case hiT6u =>
                    simp only [List.getElem?_toArray, List.getElem?_cons_succ, List.getElem?_cons_zero]
                    exact rfl
                  case hQT6u => exact fun _ _ _ h => h
                  case hyT6u =>
                    refine Or.inl ⟨by rfl, ?_⟩
                    intro w hSw
                    (try dsimp only at hSw)
                    go_simp
                    (try with_reducible rfl)
                  (try simp only [Act.put, List.setIfInBounds_toArray, List.set_cons_zero, List.set_cons_succ])
                  refine' wpAnyH_take (i := 7) (oi := ?oiT7u) (v := ?vT7u) ?hiT7u (by kernel_rfl) (by kernel_rfl) (by kernel_rfl) ?hQT7u ?hyT7u hS ?restT7u
                  case hiT7u =>
                    simp only [List.getElem?_toArray, List.getElem?_cons_succ, List.getElem?_cons_zero]
                    exact rfl
                  case hQT7u => exact fun _ _ _ h => h
                  case hyT7u =>
                    refine Or.inl ⟨by rfl, ?_⟩
                    intro w hSw
                    (try dsimp only at hSw)
                    go_simp
                    (try with_reducible rfl)
                  (try simp only [Act.put, List.setIfInBounds_toArray, List.set_cons_zero, List.set_cons_succ])
                  refine' wpAnyH_take (i := 8) (oi := ?oiT8u) (v := ?vT8u) ?hiT8u (by kernel_rfl) (by kernel_rfl) (by kernel_rfl) ?hQT8u ?hyT8u hS ?restT8u
                  case hiT8u =>
                    simp only [List.getElem?_toArray, List.getElem?_cons_succ, List.getElem?_cons_zero]
                    exact rfl
                  case hQT8u => exact fun _ _ _ h => h
                  case hyT8u =>
                    refine Or.inl ⟨by rfl, ?_⟩
                    intro w hSw
                    (try dsimp only at hSw)
                    go_simp
                    (try with_reducible rfl)
                  (try simp only [Act.put, List.setIfInBounds_toArray, List.set_cons_zero, List.set_cons_succ])
                  refine' wpAnyH_take (i := 9) (oi := ?oiT9u) (v := ?vT9u) ?hiT9u (by kernel_rfl) (by kernel_rfl) (by kernel_rfl) ?hQT9u ?hyT9u hS ?restT9u
                  case hiT9u =>
                    simp only [List.getElem?_toArray, List.getElem?_cons_succ, List.getElem?_cons_zero]
                    exact rfl
                  case hQT9u => exact fun _ _ _ h => h
                  case hyT9u =>
                    refine Or.inl ⟨by rfl, ?_⟩
                    intro w hSw
                    (try dsimp only at hSw)
                    go_simp
                    (try with_reducible rfl)
                  (try simp only [Act.put, List.setIfInBounds_toArray, List.set_cons_zero, List.set_cons_succ])
                  refine' wpAnyH_take (i := 10) (oi := ?oiT10u) (v := ?vT10u) ?hiT10u (by kernel_rfl) (by kernel_rfl) (by kernel_rfl) ?hQT10u ?hyT10u hS ?restT10u
                  case hiT10u =>
                    simp only [List.getElem?_toArray, List.getElem?_cons_succ, List.getElem?_cons_zero]
                    exact rfl
                  case hQT10u => exact fun _ _ _ h => h
                  case hyT10u =>
                    refine Or.inl ⟨by rfl, ?_⟩
                    intro w hSw
                    (try dsimp only at hSw)
                    go_simp
                    (try with_reducible rfl)
                  (try simp only [Act.put, List.setIfInBounds_toArray, List.set_cons_zero, List.set_cons_succ])
                  refine' wpAnyH_take (i := 11) (oi := ?oiT11u) (v := ?vT11u) ?hiT11u (by kernel_rfl) (by kernel_rfl) (by kernel_rfl) ?hQT11u ?hyT11u hS ?restT11u
                  case hiT11u =>
                    simp only [List.getElem?_toArray, List.getElem?_cons_succ, List.getElem?_cons_zero]
                    exact rfl
                  case hQT11u => exact fun _ _ _ h => h
                  case hyT11u =>
                    refine Or.inl ⟨by rfl, ?_⟩
                    intro w hSw
                    (try dsimp only at hSw)
                    go_simp
                    (try with_reducible rfl)
                  (try simp only [Act.put, List.setIfInBounds_toArray, List.set_cons_zero, List.set_cons_succ])
                  refine' wpAnyH_take (i := 12) (oi := ?oiT12u) (v := ?vT12u) ?hiT12u (by kernel_rfl) (by kernel_rfl) (by kernel_rfl) ?hQT12u ?hyT12u hS ?restT12u
                  case hiT12u =>
                    simp only [List.getElem?_toArray, List.getElem?_cons_succ, List.getElem?_cons_zero]
                    exact rfl
                  case hQT12u => exact fun _ _ _ h => h
                  case hyT12u =>
                    refine Or.inl ⟨by rfl, ?_⟩
                    intro w hSw
                    (try dsimp only at hSw)
                    go_simp
                    (try with_reducible rfl)
                  (try simp only [Act.put, List.setIfInBounds_toArray, List.set_cons_zero, List.set_cons_succ])
                  refine' wpAnyH_take (i := 13) (oi := ?oiT13u) (v := ?vT13u) ?hiT13u (by kernel_rfl) (by kernel_rfl) (by kernel_rfl) ?hQT13u ?hyT13u hS ?restT13u
                  case hiT13u =>
                    simp only [List.getElem?_toArray, List.getElem?_cons_succ, List.getElem?_cons_zero]
                    exact rfl
                  case hQT13u => exact fun _ _ _ h => h
                  case hyT13u =>
                    refine Or.inl ⟨by rfl, ?_⟩
                    intro w hSw
                    (try dsimp only at hSw)
                    go_simp
                    (try with_reducible rfl)
                  (try simp only [Act.put, List.setIfInBounds_toArray, List.set_cons_zero, List.set_cons_succ])
                  refine' wpAnyH_take (i := 14) (oi := ?oiT14u) (v := ?vT14u) ?hiT14u (by kernel_rfl) (by kernel_rfl) (by kernel_rfl) ?hQT14u ?hyT14u hS ?restT14u
                  case hiT14u =>
                    simp only [List.getElem?_toArray, List.getElem?_cons_succ, List.getElem?_cons_zero]
                    exact rfl
                  case hQT14u => exact fun _ _ _ h => h
                  case hyT14u =>
                    refine Or.inl ⟨by rfl, ?_⟩
                    intro w hSw
                    (try dsimp only at hSw)
                    go_simp
                    (try with_reducible rfl)
                  (try simp only [Act.put, List.setIfInBounds_toArray, List.set_cons_zero, List.set_cons_succ])
                  refine' wpAnyH_take (i := 15) (oi := ?oiT15u) (v := ?vT15u) ?hiT15u (by kernel_rfl) (by kernel_rfl) (by kernel_rfl) ?hQT15u ?hyT15u hS ?restT15u
                  case hiT15u =>
                    simp only [List.getElem?_toArray, List.getElem?_cons_succ, List.getElem?_cons_zero]
                    exact rfl
                  case hQT15u => exact fun _ _ _ h => h
                  case hyT15u =>
                    refine Or.inl ⟨by rfl, ?_⟩
                    intro w hSw
                    (try dsimp only at hSw)
                    go_simp
                    (try with_reducible rfl)
                  (try simp only [Act.put, List.setIfInBounds_toArray, List.set_cons_zero, List.set_cons_succ])
                  refine' wpAnyH_take (i := 16) (oi := ?oiT16u) (v := ?vT16u) ?hiT16u (by kernel_rfl) (by kernel_rfl) (by kernel_rfl) ?hQT16u ?hyT16u hS ?restT16u
                  case hiT16u =>
                    simp only [List.getElem?_toArray, List.getElem?_cons_succ, List.getElem?_cons_zero]
                    exact rfl
                  case hQT16u => exact fun _ _ _ h => h
                  case hyT16u =>
                    refine Or.inl ⟨by rfl, ?_⟩
                    intro w hSw
                    (try dsimp only at hSw)
                    go_simp
                    (try with_reducible rfl)
                  (try simp only [Act.put, List.setIfInBounds_toArray, List.set_cons_zero, List.set_cons_succ])
                  refine' wpAnyH_take (i := 17) (oi := ?oiT17u) (v := ?vT17u) ?hiT17u (by kernel_rfl) (by kernel_rfl) (by kernel_rfl) ?hQT17u ?hyT17u hS ?restT17u
                  case hiT17u =>
                    simp only [List.getElem?_toArray, List.getElem?_cons_succ, List.getElem?_cons_zero]
                    exact rfl
                  case hQT17u => exact fun _ _ _ h => h
                  case hyT17u =>
                    refine Or.inl ⟨by rfl, ?_⟩
                    intro w hSw
                    (try dsimp only at hSw)
                    go_simp
                    (try with_reducible rfl)
                  (try simp only [Act.put, List.setIfInBounds_toArray, List.set_cons_zero, List.set_cons_succ])
                  refine' wpAnyH_take (i := 18) (oi := ?oiT18u) (v := ?vT18u) ?hiT18u (by kernel_rfl) (by kernel_rfl) (by kernel_rfl) ?hQT18u ?hyT18u hS ?restT18u
                  case hiT18u =>
                    simp only [List.getElem?_toArray, List.getElem?_cons_succ, List.getElem?_cons_zero]
                    exact rfl
                  case hQT18u => exact fun _ _ _ h => h
                  case hyT18u =>
                    refine Or.inl ⟨by rfl, ?_⟩
                    intro w hSw
                    (try dsimp only at hSw)
                    go_simp
                    (try with_reducible rfl)
                  (try simp only [Act.put, List.setIfInBounds_toArray, List.set_cons_zero, List.set_cons_succ])
                  refine' wpAnyH_take (i := 19) (oi := ?oiT19u) (v := ?vT19u) ?hiT19u (by kernel_rfl) (by kernel_rfl) (by kernel_rfl) ?hQT19u ?hyT19u hS ?restT19u
                  case hiT19u =>
                    simp only [List.getElem?_toArray, List.getElem?_cons_succ, List.getElem?_cons_zero]
                    exact rfl
                  case hQT19u => exact fun _ _ _ h => h
                  case hyT19u =>
                    refine Or.inl ⟨by rfl, ?_⟩
                    intro w hSw
                    (try dsimp only at hSw)
                    go_simp
                    (try with_reducible rfl)
                  (try simp only [Act.put, List.setIfInBounds_toArray, List.set_cons_zero, List.set_cons_succ])
                  refine wpAnyH_done (by kernel_rfl) ?_ _
                  have hB6 := hS.2.2
                  have hBr6 := hb2.trans (hB6.mono hb2.size)
                  clear hS
                  go_wp2
                  go_ret2
                  exact ⟨by rw [PV.out]; rfl, hBr6⟩
                · rw [if_neg (fun h => hb0 h.2), if_neg (by omega)] at GA
                  have GH := Lib.hid GA
                  have hVM : V ≤ M := by omega
                  have hVf : decide ((m : Int) + 1 ≤ (V : Int)) = false := decide_eq_false (by omega)
                  have hVg : ¬ (m : Int) + 1 ≤ (V : Int) := by omega
                  clear GA hb0
                  go_wp2
                  refine wp_region_held_drew (S := fun w' => w'.cell? ⟨W.heap.size, b, none⟩ = some (.int .i64 (z0 : Int)) ∧ w'.cell? ⟨W.heap.size, b + 1, none⟩ = some (.int .i64 (z : Int)) ∧ Below w2.heap.size w2 w') (by kernel_rfl) ?_ (fun hS => ?_)
                  · (try dsimp only)
                    (repeat' apply And.intro) <;> first | go_cell | exact hB5.drew
                  refine' wpAnyH_take (i := 0) (oi := ?oiT0v) (v := ?vT0v) ?hiT0v (by kernel_rfl) (by kernel_rfl) (by kernel_rfl) ?hQT0v ?hyT0v hS ?restT0v
                  case hiT0v =>
                    simp only [List.getElem?_toArray, List.getElem?_cons_succ, List.getElem?_cons_zero]
                    exact rfl
                  case hQT0v => exact fun _ _ _ h => h
                  case hyT0v =>
                    refine Or.inl ⟨by rfl, ?_⟩
                    intro w hSw
                    (try dsimp only at hSw)
                    go_simp
                    (try with_reducible rfl)
                  (try simp only [Act.put, List.setIfInBounds_toArray, List.set_cons_zero, List.set_cons_succ])
                  refine' wpAnyH_take (i := 1) (oi := ?oiT1v) (v := ?vT1v) ?hiT1v (by kernel_rfl) (by kernel_rfl) (by kernel_rfl) ?hQT1v ?hyT1v hS ?restT1v
                  case hiT1v =>
                    simp only [List.getElem?_toArray, List.getElem?_cons_succ, List.getElem?_cons_zero]
                    exact rfl
                  case hQT1v => exact fun _ _ _ h => h
                  case hyT1v =>
                    refine Or.inl ⟨by rfl, ?_⟩
                    intro w hSw
                    (try dsimp only at hSw)
                    go_simp
                    (try with_reducible rfl)
                  (try simp only [Act.put, List.setIfInBounds_toArray, List.set_cons_zero, List.set_cons_succ])
                  refine' wpAnyH_take (i := 2) (oi := ?oiT2v) (v := ?vT2v) ?hiT2v (by kernel_rfl) (by kernel_rfl) (by kernel_rfl) ?hQT2v ?hyT2v hS ?restT2v
                  case hiT2v =>
                    simp only [List.getElem?_toArray, List.getElem?_cons_succ, List.getElem?_cons_zero]
                    exact rfl
                  case hQT2v => exact fun _ _ _ h => h
                  case hyT2v =>
                    refine Or.inl ⟨by rfl, ?_⟩
                    intro w hSw
                    (try dsimp only at hSw)
                    go_simp
                    (try with_reducible rfl)
                  (try simp only [Act.put, List.setIfInBounds_toArray, List.set_cons_zero, List.set_cons_succ])
                  refine' wpAnyH_take (i := 3) (oi := ?oiT3v) (v := ?vT3v) ?hiT3v (by kernel_rfl) (by kernel_rfl) (by kernel_rfl) ?hQT3v ?hyT3v hS ?restT3v
                  case hiT3v =>
                    simp only [List.getElem?_toArray, List.getElem?_cons_succ, List.getElem?_cons_zero]
                    exact rfl
                  case hQT3v => exact fun _ _ _ h => h
                  case hyT3v =>
                    refine Or.inl ⟨by rfl, ?_⟩
                    intro w hSw
                    (try dsimp only at hSw)
                    go_simp
                    (try with_reducible rfl)
                  (try simp only [Act.put, List.setIfInBounds_toArray, List.set_cons_zero, List.set_cons_succ])
                  refine' wpAnyH_take (i := 4) (oi := ?oiT4v) (v := ?vT4v) ?hiT4v (by kernel_rfl) (by kernel_rfl) (by kernel_rfl) ?hQT4v ?hyT4v hS ?restT4v
                  case hiT4v =>
                    simp only [List.getElem?_toArray, List.getElem?_cons_succ, List.getElem?_cons_zero]
                    exact rfl
                  case hQT4v => exact fun _ _ _ h => h
                  case hyT4v =>
                    refine Or.inl ⟨by rfl, ?_⟩
                    intro w hSw
                    (try dsimp only at hSw)
                    go_simp
                    (try with_reducible rfl)
                  (try simp only [Act.put, List.setIfInBounds_toArray, List.set_cons_zero, List.set_cons_succ])
                  refine' wpAnyH_take (i := 5) (oi := ?oiT5v) (v := ?vT5v) ?hiT5v (by kernel_rfl) (by kernel_rfl) (by kernel_rfl) ?hQT5v ?hyT5v hS ?restT5v
                  case hiT5v =>
                    simp only [List.getElem?_toArray, List.getElem?_cons_succ, List.getElem?_cons_zero]
                    exact rfl
                  case hQT5v => exact fun _ _ _ h => h
                  case hyT5v =>
                    refine Or.inl ⟨by rfl, ?_⟩
                    intro w hSw
                    (try dsimp only at hSw)
                    go_simp
                    (try with_reducible rfl)
                  (try simp only [Act.put, List.setIfInBounds_toArray, List.set_cons_zero, List.set_cons_succ])
                  refine' wpAnyH_take (i := 6) (oi := ?oiT6v) (v := ?vT6v) ?hiT6v (by kernel_rfl) (by kernel_rfl) (by kernel_rfl) ?hQT6v ?hyT6v hS ?restT6v
                  case hiT6v =>
                    simp only [List.getElem?_toArray, List.getElem?_cons_succ, List.getElem?_cons_zero]
                    exact rfl
                  case hQT6v => exact fun _ _ _ h => h
                  case hyT6v =>
                    refine Or.inl ⟨by rfl, ?_⟩
                    intro w hSw
                    (try dsimp only at hSw)
                    go_simp
                    (try with_reducible rfl)
                  (try simp only [Act.put, List.setIfInBounds_toArray, List.set_cons_zero, List.set_cons_succ])
                  refine' wpAnyH_take (i := 7) (oi := ?oiT7v) (v := ?vT7v) ?hiT7v (by kernel_rfl) (by kernel_rfl) (by kernel_rfl) ?hQT7v ?hyT7v hS ?restT7v
                  case hiT7v =>
                    simp only [List.getElem?_toArray, List.getElem?_cons_succ, List.getElem?_cons_zero]
                    exact rfl
                  case hQT7v => exact fun _ _ _ h => h
                  case hyT7v =>
                    refine Or.inl ⟨by rfl, ?_⟩
                    intro w hSw
                    (try dsimp only at hSw)
                    go_simp
                    (try with_reducible rfl)
                  (try simp only [Act.put, List.setIfInBounds_toArray, List.set_cons_zero, List.set_cons_succ])
                  refine' wpAnyH_take (i := 8) (oi := ?oiT8v) (v := ?vT8v) ?hiT8v (by kernel_rfl) (by kernel_rfl) (by kernel_rfl) ?hQT8v ?hyT8v hS ?restT8v
                  case hiT8v =>
                    simp only [List.getElem?_toArray, List.getElem?_cons_succ, List.getElem?_cons_zero]
                    exact rfl
                  case hQT8v => exact fun _ _ _ h => h
                  case hyT8v =>
                    refine Or.inl ⟨by rfl, ?_⟩
                    intro w hSw
                    (try dsimp only at hSw)
                    go_simp
                    (try with_reducible rfl)
                  (try simp only [Act.put, List.setIfInBounds_toArray, List.set_cons_zero, List.set_cons_succ])
                  refine' wpAnyH_take (i := 9) (oi := ?oiT9v) (v := ?vT9v) ?hiT9v (by kernel_rfl) (by kernel_rfl) (by kernel_rfl) ?hQT9v ?hyT9v hS ?restT9v
                  case hiT9v =>
                    simp only [List.getElem?_toArray, List.getElem?_cons_succ, List.getElem?_cons_zero]
                    exact rfl
                  case hQT9v => exact fun _ _ _ h => h
                  case hyT9v =>
                    refine Or.inl ⟨by rfl, ?_⟩
                    intro w hSw
                    (try dsimp only at hSw)
                    go_simp
                    (try with_reducible rfl)
                  (try simp only [Act.put, List.setIfInBounds_toArray, List.set_cons_zero, List.set_cons_succ])
                  refine' wpAnyH_take (i := 10) (oi := ?oiT10v) (v := ?vT10v) ?hiT10v (by kernel_rfl) (by kernel_rfl) (by kernel_rfl) ?hQT10v ?hyT10v hS ?restT10v
                  case hiT10v =>
                    simp only [List.getElem?_toArray, List.getElem?_cons_succ, List.getElem?_cons_zero]
                    exact rfl
                  case hQT10v => exact fun _ _ _ h => h
                  case hyT10v =>
                    refine Or.inl ⟨by rfl, ?_⟩
                    intro w hSw
                    (try dsimp only at hSw)
                    go_simp
                    (try with_reducible rfl)
                  (try simp only [Act.put, List.setIfInBounds_toArray, List.set_cons_zero, List.set_cons_succ])
                  refine' wpAnyH_take (i := 11) (oi := ?oiT11v) (v := ?vT11v) ?hiT11v (by kernel_rfl) (by kernel_rfl) (by kernel_rfl) ?hQT11v ?hyT11v hS ?restT11v
                  case hiT11v =>
                    simp only [List.getElem?_toArray, List.getElem?_cons_succ, List.getElem?_cons_zero]
                    exact rfl
                  case hQT11v => exact fun _ _ _ h => h
                  case hyT11v =>
                    refine Or.inl ⟨by rfl, ?_⟩
                    intro w hSw
                    (try dsimp only at hSw)
                    go_simp
                    (try with_reducible rfl)
                  (try simp only [Act.put, List.setIfInBounds_toArray, List.set_cons_zero, List.set_cons_succ])
                  refine' wpAnyH_take (i := 12) (oi := ?oiT12v) (v := ?vT12v) ?hiT12v (by kernel_rfl) (by kernel_rfl) (by kernel_rfl) ?hQT12v ?hyT12v hS ?restT12v
                  case hiT12v =>
                    simp only [List.getElem?_toArray, List.getElem?_cons_succ, List.getElem?_cons_zero]
                    exact rfl
                  case hQT12v => exact fun _ _ _ h => h
                  case hyT12v =>
                    refine Or.inl ⟨by rfl, ?_⟩
                    intro w hSw
                    (try dsimp only at hSw)
                    go_simp
                    (try with_reducible rfl)
                  (try simp only [Act.put, List.setIfInBounds_toArray, List.set_cons_zero, List.set_cons_succ])
                  refine' wpAnyH_take (i := 13) (oi := ?oiT13v) (v := ?vT13v) ?hiT13v (by kernel_rfl) (by kernel_rfl) (by kernel_rfl) ?hQT13v ?hyT13v hS ?restT13v
                  case hiT13v =>
                    simp only [List.getElem?_toArray, List.getElem?_cons_succ, List.getElem?_cons_zero]
                    exact rfl
                  case hQT13v => exact fun _ _ _ h => h
                  case hyT13v =>
                    refine Or.inl ⟨by rfl, ?_⟩
                    intro w hSw
                    (try dsimp only at hSw)
                    go_simp
                    (try with_reducible rfl)
                  (try simp only [Act.put, List.setIfInBounds_toArray, List.set_cons_zero, List.set_cons_succ])
                  refine' wpAnyH_take (i := 14) (oi := ?oiT14v) (v := ?vT14v) ?hiT14v (by kernel_rfl) (by kernel_rfl) (by kernel_rfl) ?hQT14v ?hyT14v hS ?restT14v
                  case hiT14v =>
                    simp only [List.getElem?_toArray, List.getElem?_cons_succ, List.getElem?_cons_zero]
                    exact rfl
                  case hQT14v => exact fun _ _ _ h => h
                  case hyT14v =>
                    refine Or.inl ⟨by rfl, ?_⟩
                    intro w hSw
                    (try dsimp only at hSw)
                    go_simp
                    (try with_reducible rfl)
                  (try simp only [Act.put, List.setIfInBounds_toArray, List.set_cons_zero, List.set_cons_succ])
                  refine' wpAnyH_take (i := 15) (oi := ?oiT15v) (v := ?vT15v) ?hiT15v (by kernel_rfl) (by kernel_rfl) (by kernel_rfl) ?hQT15v ?hyT15v hS ?restT15v
                  case hiT15v =>
                    simp only [List.getElem?_toArray, List.getElem?_cons_succ, List.getElem?_cons_zero]
                    exact rfl
                  case hQT15v => exact fun _ _ _ h => h
                  case hyT15v =>
                    refine Or.inl ⟨by rfl, ?_⟩
                    intro w hSw
                    (try dsimp only at hSw)
                    go_simp
                    (try with_reducible rfl)
                  (try simp only [Act.put, List.setIfInBounds_toArray, List.set_cons_zero, List.set_cons_succ])
                  refine' wpAnyH_take (i := 16) (oi := ?oiT16v) (v := ?vT16v) ?hiT16v (by kernel_rfl) (by kernel_rfl) (by kernel_rfl) ?hQT16v ?hyT16v hS ?restT16v
                  case hiT16v =>
                    simp only [List.getElem?_toArray, List.getElem?_cons_succ, List.getElem?_cons_zero]
                    exact rfl
                  case hQT16v => exact fun _ _ _ h => h
                  case hyT16v =>
                    refine Or.inl ⟨by rfl, ?_⟩
                    intro w hSw
                    (try dsimp only at hSw)
                    go_simp
                    (try with_reducible rfl)
                  (try simp only [Act.put, List.setIfInBounds_toArray, List.set_cons_zero, List.set_cons_succ])
                  refine' wpAnyH_take (i := 17) (oi := ?oiT17v) (v := ?vT17v) ?hiT17v (by kernel_rfl) (by kernel_rfl) (by kernel_rfl) ?hQT17v ?hyT17v hS ?restT17v
                  case hiT17v =>
                    simp only [List.getElem?_toArray, List.getElem?_cons_succ, List.getElem?_cons_zero]
                    exact rfl
                  case hQT17v => exact fun _ _ _ h => h
                  case hyT17v =>
                    refine Or.inl ⟨by rfl, ?_⟩
                    intro w hSw
                    (try dsimp only at hSw)
                    go_simp
                    (try with_reducible rfl)
                  (try simp only [Act.put, List.setIfInBounds_toArray, List.set_cons_zero, List.set_cons_succ])
                  refine' wpAnyH_take (i := 18) (oi := ?oiT18v) (v := ?vT18v) ?hiT18v (by kernel_rfl) (by kernel_rfl) (by kernel_rfl) ?hQT18v ?hyT18v hS ?restT18v
                  case hiT18v =>
                    simp only [List.getElem?_toArray, List.getElem?_cons_succ, List.getElem?_cons_zero]
                    exact rfl
                  case hQT18v => exact fun _ _ _ h => h
                  case hyT18v =>
                    refine Or.inl ⟨by rfl, ?_⟩
                    intro w hSw
                    (try dsimp only at hSw)
                    go_simp
                    (try with_reducible rfl)
                  (try simp only [Act.put, List.setIfInBounds_toArray, List.set_cons_zero, List.set_cons_succ])
                  refine' wpAnyH_take (i := 19) (oi := ?oiT19v) (v := ?vT19v) ?hiT19v (by kernel_rfl) (by kernel_rfl) (by kernel_rfl) ?hQT19v ?hyT19v hS ?restT19v
                  case hiT19v =>
                    simp only [List.getElem?_toArray, List.getElem?_cons_succ, List.getElem?_cons_zero]
                    exact rfl
                  case hQT19v => exact fun _ _ _ h => h
                  case hyT19v =>
                    refine Or.inl ⟨by rfl, ?_⟩
                    intro w hSw
                    (try dsimp only at hSw)
                    go_simp
                    (try with_reducible rfl)
                  (try simp only [Act.put, List.setIfInBounds_toArray, List.set_cons_zero, List.set_cons_succ])
                  refine wpAnyH_done (by kernel_rfl) ?_ _
                  have hB6 := hS.2.2
                  have hBr6 := hb2.trans (hB6.mono hb2.size)
                  clear hS
                  have y5 := X1.out _ hB6
                  clear hm1 hm2
                  have m0 := hMz V hVM
                  have m1 : (V : Int) * (z : Int) = ((V * z : Nat) : Int) := by simp
                  have m2 : IntKind.i64.wrap ((V : Int) * (z : Int)) = (V : Int) * (z : Int) := by rw [IntKind.wrap_i64, m1]; omega
                  have m3 : IntKind.i64.wrap ((tot : Int) + (V : Int) * (z : Int)) = (tot : Int) + (V : Int) * (z : Int) := by rw [IntKind.wrap_i64, m1]; omega
                  have hVM' : (V : Int) ≤ (M : Int) := by omega
                  have hVd : decide ((M : Int) < (V : Int)) = false := decide_eq_false (by omega)
                  have hVe : ¬ (M : Int) < (V : Int) := by omega
                  have HM0 := Lib.hid m0
                  clear m0 m1 hMz hM hVM hM2 q6
                  go_wp2
                  go_roundg (s.size - jj)
                  case measure => omega
                  case rel => exact ⟨b + 1 + 1, jj, tot + V * z, big, by omega, by omega, by simp, rfl, by go_num, rfl, cap_add htot2.out HM0.out, hB6, GH.out⟩
            · simp only [hV, if_false] at NB
              have NB2 := Lib.hid (NB wc)
              clear NB
              rcases Nat.eq_zero_or_pos aa with h0 | h0
              · subst h0
                rw [if_neg (fun h => h.1 rfl)] at GA
                go_wp2_with fail
                refine NB2.out.mono ?_
                rintro e w5 ⟨rfl, hb5⟩
                have hB5 := hB3.trans (hb5.mono hB3.size)
                have hBr5 := hBr.trans (hb5.mono hBr.size)
                clear NB2 hBr5 hb5
                generalize unitSize ⟨0, ha⟩ = z at *
                have hz1 : (1 : Int) ≤ (z : Int) := by omega
                have q2 : ¬ (z : Int) = 0 := by omega
                have q3 : ((z : Int) == 0) = false := by rw [beq_eq_false_iff_ne]; exact q2
                have q4 : ¬ z = 0 := by omega
                have q5 : (z == 0) = false := by rw [beq_eq_false_iff_ne]; exact q4
                obtain ⟨M, hM⟩ : ∃ M, maxT / z = M := ⟨_, rfl⟩
                have q1 : (4398046511104 : Int) / (z : Int) = (M : Int) := by rw [← hM]; unfold maxT; rw [Int.natCast_ediv]; rfl
                have hM2 : M ≤ 4398046511104 := by rw [← hM]; exact Nat.div_le_self _ _
                have q6 : IntKind.i64.wrap (M : Int) = (M : Int) := by rw [IntKind.wrap_i64]; omega
                have hMz : ∀ v, v ≤ M → v * z ≤ 4398046511104 := fun v hv => by
                  rw [← hM] at hv
                  exact Nat.le_trans (Nat.mul_le_mul_right z hv) (Nat.div_mul_le_self _ _)
                rw [hM] at GA
                rw [if_pos (by omega)] at GA
                have GH := Lib.hid GA
                clear GA hM2 q6 hV
                go_wp2
                refine wp_region_held_drew (S := fun w' => Below w2.heap.size w2 w') (by kernel_rfl) ?_ (fun hS => ?_)
                · (try dsimp only)
                  (repeat' apply And.intro) <;> first | go_cell | exact hB5.drew
                refine' wpAnyH_take (i := 0) (oi := ?oiT0g) (v := ?vT0g) ?hiT0g (by kernel_rfl) (by kernel_rfl) (by kernel_rfl) ?hQT0g ?hyT0g hS ?restT0g
                case hiT0g =>
                  simp only [List.getElem?_toArray, List.getElem?_cons_succ, List.getElem?_cons_zero]
                  exact rfl
                case hQT0g => exact fun _ _ _ h => h
                case hyT0g =>
                  refine Or.inl ⟨by rfl, ?_⟩
                  intro w hSw
                  (try dsimp only at hSw)
                  go_simp
                  (try with_reducible rfl)
                (try simp only [Act.put, List.setIfInBounds_toArray, List.set_cons_zero, List.set_cons_succ])
                refine' wpAnyH_take (i := 1) (oi := ?oiT1g) (v := ?vT1g) ?hiT1g (by kernel_rfl) (by kernel_rfl) (by kernel_rfl) ?hQT1g ?hyT1g hS ?restT1g
                case hiT1g =>
                  simp only [List.getElem?_toArray, List.getElem?_cons_succ, List.getElem?_cons_zero]
                  exact rfl
                case hQT1g => exact fun _ _ _ h => h
                case hyT1g =>
                  refine Or.inl ⟨by rfl, ?_⟩
                  intro w hSw
                  (try dsimp only at hSw)
                  go_simp
                  (try with_reducible rfl)
                (try simp only [Act.put, List.setIfInBounds_toArray, List.set_cons_zero, List.set_cons_succ])
                refine' wpAnyH_take (i := 2) (oi := ?oiT2g) (v := ?vT2g) ?hiT2g (by kernel_rfl) (by kernel_rfl) (by kernel_rfl) ?hQT2g ?hyT2g hS ?restT2g
                case hiT2g =>
                  simp only [List.getElem?_toArray, List.getElem?_cons_succ, List.getElem?_cons_zero]
                  exact rfl
                case hQT2g => exact fun _ _ _ h => h
                case hyT2g =>
                  refine Or.inl ⟨by rfl, ?_⟩
                  intro w hSw
                  (try dsimp only at hSw)
                  go_simp
                  (try with_reducible rfl)
                (try simp only [Act.put, List.setIfInBounds_toArray, List.set_cons_zero, List.set_cons_succ])
                refine' wpAnyH_take (i := 3) (oi := ?oiS3g) (v := undef) ?hiS3g (by kernel_rfl) (by kernel_rfl) (by kernel_rfl) ?hQS3g ?hyS3g hS ?restS3g
                case hiS3g =>
                  simp only [List.getElem?_toArray, List.getElem?_cons_succ, List.getElem?_cons_zero]
                  exact rfl
                case hQS3g => exact fun _ _ _ h => h
                case hyS3g => exact Or.inr ⟨by rfl, rfl⟩
                (try simp only [Act.put, List.setIfInBounds_toArray, List.set_cons_zero, List.set_cons_succ])
                refine' wpAnyH_take (i := 4) (oi := ?oiS4g) (v := undef) ?hiS4g (by kernel_rfl) (by kernel_rfl) (by kernel_rfl) ?hQS4g ?hyS4g hS ?restS4g
                case hiS4g =>
                  simp only [List.getElem?_toArray, List.getElem?_cons_succ, List.getElem?_cons_zero]
                  exact rfl
                case hQS4g => exact fun _ _ _ h => h
                case hyS4g => exact Or.inr ⟨by rfl, rfl⟩
                (try simp only [Act.put, List.setIfInBounds_toArray, List.set_cons_zero, List.set_cons_succ])
                refine' wpAnyH_take (i := 5) (oi := ?oiS5g) (v := undef) ?hiS5g (by kernel_rfl) (by kernel_rfl) (by kernel_rfl) ?hQS5g ?hyS5g hS ?restS5g
                case hiS5g =>
                  simp only [List.getElem?_toArray, List.getElem?_cons_succ, List.getElem?_cons_zero]
                  exact rfl
                case hQS5g => exact fun _ _ _ h => h
                case hyS5g => exact Or.inr ⟨by rfl, rfl⟩
                (try simp only [Act.put, List.setIfInBounds_toArray, List.set_cons_zero, List.set_cons_succ])
                refine' wpAnyH_take (i := 6) (oi := ?oiS6g) (v := undef) ?hiS6g (by kernel_rfl) (by kernel_rfl) (by kernel_rfl) ?hQS6g ?hyS6g hS ?restS6g
                case hiS6g =>
                  simp only [List.getElem?_toArray, List.getElem?_cons_succ, List.getElem?_cons_zero]
                  exact rfl
                case hQS6g => exact fun _ _ _ h => h
                case hyS6g => exact Or.inr ⟨by rfl, rfl⟩
                (try simp only [Act.put, List.setIfInBounds_toArray, List.set_cons_zero, List.set_cons_succ])
                refine' wpAnyH_take (i := 7) (oi := ?oiS7g) (v := undef) ?hiS7g (by kernel_rfl) (by kernel_rfl) (by kernel_rfl) ?hQS7g ?hyS7g hS ?restS7g
                case hiS7g =>
                  simp only [List.getElem?_toArray, List.getElem?_cons_succ, List.getElem?_cons_zero]
                  exact rfl
                case hQS7g => exact fun _ _ _ h => h
                case hyS7g => exact Or.inr ⟨by rfl, rfl⟩
                (try simp only [Act.put, List.setIfInBounds_toArray, List.set_cons_zero, List.set_cons_succ])
                refine' wpAnyH_take (i := 8) (oi := ?oiS8g) (v := undef) ?hiS8g (by kernel_rfl) (by kernel_rfl) (by kernel_rfl) ?hQS8g ?hyS8g hS ?restS8g
                case hiS8g =>
                  simp only [List.getElem?_toArray, List.getElem?_cons_succ, List.getElem?_cons_zero]
                  exact rfl
                case hQS8g => exact fun _ _ _ h => h
                case hyS8g => exact Or.inr ⟨by rfl, rfl⟩
                (try simp only [Act.put, List.setIfInBounds_toArray, List.set_cons_zero, List.set_cons_succ])
                refine' wpAnyH_take (i := 9) (oi := ?oiS9g) (v := undef) ?hiS9g (by kernel_rfl) (by kernel_rfl) (by kernel_rfl) ?hQS9g ?hyS9g hS ?restS9g
                case hiS9g =>
                  simp only [List.getElem?_toArray, List.getElem?_cons_succ, List.getElem?_cons_zero]
                  exact rfl
                case hQS9g => exact fun _ _ _ h => h
                case hyS9g => exact Or.inr ⟨by rfl, rfl⟩
                (try simp only [Act.put, List.setIfInBounds_toArray, List.set_cons_zero, List.set_cons_succ])
                refine' wpAnyH_take (i := 10) (oi := ?oiS10g) (v := undef) ?hiS10g (by kernel_rfl) (by kernel_rfl) (by kernel_rfl) ?hQS10g ?hyS10g hS ?restS10g
                case hiS10g =>
                  simp only [List.getElem?_toArray, List.getElem?_cons_succ, List.getElem?_cons_zero]
                  exact rfl
                case hQS10g => exact fun _ _ _ h => h
                case hyS10g => exact Or.inr ⟨by rfl, rfl⟩
                (try simp only [Act.put, List.setIfInBounds_toArray, List.set_cons_zero, List.set_cons_succ])
                refine' wpAnyH_take (i := 11) (oi := ?oiS11g) (v := undef) ?hiS11g (by kernel_rfl) (by kernel_rfl) (by kernel_rfl) ?hQS11g ?hyS11g hS ?restS11g
                case hiS11g =>
                  simp only [List.getElem?_toArray, List.getElem?_cons_succ, List.getElem?_cons_zero]
                  exact rfl
                case hQS11g => exact fun _ _ _ h => h
                case hyS11g => exact Or.inr ⟨by rfl, rfl⟩
                (try simp only [Act.put, List.setIfInBounds_toArray, List.set_cons_zero, List.set_cons_succ])
                refine' wpAnyH_take (i := 12) (oi := ?oiS12g) (v := undef) ?hiS12g (by kernel_rfl) (by kernel_rfl) (by kernel_rfl) ?hQS12g ?hyS12g hS ?restS12g
                case hiS12g =>
                  simp only [List.getElem?_toArray, List.getElem?_cons_succ, List.getElem?_cons_zero]
                  exact rfl
                case hQS12g => exact fun _ _ _ h => h
                case hyS12g => exact Or.inr ⟨by rfl, rfl⟩
                (try simp only [Act.put, List.setIfInBounds_toArray, List.set_cons_zero, List.set_cons_succ])
                refine' wpAnyH_take (i := 13) (oi := ?oiS13g) (v := undef) ?hiS13g (by kernel_rfl) (by kernel_rfl) (by kernel_rfl) ?hQS13g ?hyS13g hS ?restS13g
                case hiS13g =>
                  simp only [List.getElem?_toArray, List.getElem?_cons_succ, List.getElem?_cons_zero]
                  exact rfl
                case hQS13g => exact fun _ _ _ h => h
                case hyS13g => exact Or.inr ⟨by rfl, rfl⟩
                (try simp only [Act.put, List.setIfInBounds_toArray, List.set_cons_zero, List.set_cons_succ])
                refine' wpAnyH_take (i := 14) (oi := ?oiS14g) (v := undef) ?hiS14g (by kernel_rfl) (by kernel_rfl) (by kernel_rfl) ?hQS14g ?hyS14g hS ?restS14g
                case hiS14g =>
                  simp only [List.getElem?_toArray, List.getElem?_cons_succ, List.getElem?_cons_zero]
                  exact rfl
                case hQS14g => exact fun _ _ _ h => h
                case hyS14g => exact Or.inr ⟨by rfl, rfl⟩
                (try simp only [Act.put, List.setIfInBounds_toArray, List.set_cons_zero, List.set_cons_succ])
                refine' wpAnyH_take (i := 15) (oi := ?oiS15g) (v := undef) ?hiS15g (by kernel_rfl) (by kernel_rfl) (by kernel_rfl) ?hQS15g ?hyS15g hS ?restS15g
                case hiS15g =>
                  simp only [List.getElem?_toArray, List.getElem?_cons_succ, List.getElem?_cons_zero]
                  exact rfl
                case hQS15g => exact fun _ _ _ h => h
                case hyS15g => exact Or.inr ⟨by rfl, rfl⟩
                (try simp only [Act.put, List.setIfInBounds_toArray, List.set_cons_zero, List.set_cons_succ])
                refine' wpAnyH_take (i := 16) (oi := ?oiS16g) (v := undef) ?hiS16g (by kernel_rfl) (by kernel_rfl) (by kernel_rfl) ?hQS16g ?hyS16g hS ?restS16g
                case hiS16g =>
                  simp only [List.getElem?_toArray, List.getElem?_cons_succ, List.getElem?_cons_zero]
                  exact rfl
                case hQS16g => exact fun _ _ _ h => h
                case hyS16g => exact Or.inr ⟨by rfl, rfl⟩
                (try simp only [Act.put, List.setIfInBounds_toArray, List.set_cons_zero, List.set_cons_succ])
                refine' wpAnyH_take (i := 17) (oi := ?oiS17g) (v := undef) ?hiS17g (by kernel_rfl) (by kernel_rfl) (by kernel_rfl) ?hQS17g ?hyS17g hS ?restS17g
                case hiS17g =>
                  simp only [List.getElem?_toArray, List.getElem?_cons_succ, List.getElem?_cons_zero]
                  exact rfl
                case hQS17g => exact fun _ _ _ h => h
                case hyS17g => exact Or.inr ⟨by rfl, rfl⟩
                (try simp only [Act.put, List.setIfInBounds_toArray, List.set_cons_zero, List.set_cons_succ])
                refine' wpAnyH_take (i := 18) (oi := ?oiS18g) (v := undef) ?hiS18g (by kernel_rfl) (by kernel_rfl) (by kernel_rfl) ?hQS18g ?hyS18g hS ?restS18g
                case hiS18g =>
                  simp only [List.getElem?_toArray, List.getElem?_cons_succ, List.getElem?_cons_zero]
                  exact rfl
                case hQS18g => exact fun _ _ _ h => h
                case hyS18g => exact Or.inr ⟨by rfl, rfl⟩
                (try simp only [Act.put, List.setIfInBounds_toArray, List.set_cons_zero, List.set_cons_succ])
                refine' wpAnyH_take (i := 19) (oi := ?oiT19g) (v := ?vT19g) ?hiT19g (by kernel_rfl) (by kernel_rfl) (by kernel_rfl) ?hQT19g ?hyT19g hS ?restT19g
                case hiT19g =>
                  simp only [List.getElem?_toArray, List.getElem?_cons_succ, List.getElem?_cons_zero]
                  exact rfl
                case hQT19g => exact fun _ _ _ h => h
                case hyT19g =>
                  refine Or.inl ⟨by rfl, ?_⟩
                  intro w hSw
                  (try dsimp only at hSw)
                  go_simp
                  (try with_reducible rfl)
                (try simp only [Act.put, List.setIfInBounds_toArray, List.set_cons_zero, List.set_cons_succ])
                refine wpAnyH_done (by kernel_rfl) ?_ _
                have hB6 := hS
                have hBr6 := hb2.trans (hB6.mono hb2.size)
                clear hS
                clear hMz hM
                go_wp2
                go_roundg (s.size - jj)
                case measure => omega
                case rel => exact ⟨0 + 1, jj, tot, true, by omega, by omega, rfl, rfl, by go_num, rfl, cap_next htot2.out, hB6, GH.out⟩
              · obtain ⟨b, rfl⟩ : ∃ b, aa = b + 1 := ⟨aa - 1, by omega⟩
                have hne0 : (⟨b + 1, ha⟩ : Fin 5) ≠ 0 := fun h => absurd (congrArg Fin.val h) (by show ¬ (b + 1 = 0); omega)
                obtain ⟨hm1, hm2⟩ := most_small b ha
                rw [if_pos ⟨hne0, by omega⟩] at GA
                have PV : Hid (refR l = (0, 2)) := refR_none l HN.out GA
                have hb1 : (0 : Int) < (b : Int) + 1 := by omega
                clear GA hm1 hm2 hV
                go_wp2_with fail
                refine NB2.out.mono ?_
                rintro e w5 ⟨rfl, hb5⟩
                have hB5 := hB3.trans (hb5.mono hB3.size)
                have hBr5 := hBr.trans (hb5.mono hBr.size)
                clear NB2 hBr5 hb5
                go_wp2
                refine wp_region_held_drew (S := fun w' => Below w2.heap.size w2 w') (by kernel_rfl) ?_ (fun hS => ?_)
                · (try dsimp only)
                  (repeat' apply And.intro) <;> first | go_cell | exact hB5.drew
                refine' wpAnyH_take (i := 0) (oi := ?oiT0h) (v := ?vT0h) ?hiT0h (by kernel_rfl) (by kernel_rfl) (by kernel_rfl) ?hQT0h ?hyT0h hS ?restT0h
                case hiT0h =>
                  simp only [List.getElem?_toArray, List.getElem?_cons_succ, List.getElem?_cons_zero]
                  exact rfl
                case hQT0h => exact fun _ _ _ h => h
                case hyT0h =>
                  refine Or.inl ⟨by rfl, ?_⟩
                  intro w hSw
                  (try dsimp only at hSw)
                  go_simp
                  (try with_reducible rfl)
                (try simp only [Act.put, List.setIfInBounds_toArray, List.set_cons_zero, List.set_cons_succ])
                refine' wpAnyH_take (i := 1) (oi := ?oiT1h) (v := ?vT1h) ?hiT1h (by kernel_rfl) (by kernel_rfl) (by kernel_rfl) ?hQT1h ?hyT1h hS ?restT1h
                case hiT1h =>
                  simp only [List.getElem?_toArray, List.getElem?_cons_succ, List.getElem?_cons_zero]
                  exact rfl
                case hQT1h => exact fun _ _ _ h => h
                case hyT1h =>
                  refine Or.inl ⟨by rfl, ?_⟩
                  intro w hSw
                  (try dsimp only at hSw)
                  go_simp
                  (try with_reducible rfl)
                (try simp only [Act.put, List.setIfInBounds_toArray, List.set_cons_zero, List.set_cons_succ])
                refine' wpAnyH_take (i := 2) (oi := ?oiT2h) (v := ?vT2h) ?hiT2h (by kernel_rfl) (by kernel_rfl) (by kernel_rfl) ?hQT2h ?hyT2h hS ?restT2h
                case hiT2h =>
                  simp only [List.getElem?_toArray, List.getElem?_cons_succ, List.getElem?_cons_zero]
                  exact rfl
                case hQT2h => exact fun _ _ _ h => h
                case hyT2h =>
                  refine Or.inl ⟨by rfl, ?_⟩
                  intro w hSw
                  (try dsimp only at hSw)
                  go_simp
                  (try with_reducible rfl)
                (try simp only [Act.put, List.setIfInBounds_toArray, List.set_cons_zero, List.set_cons_succ])
                refine' wpAnyH_take (i := 3) (oi := ?oiT3h) (v := ?vT3h) ?hiT3h (by kernel_rfl) (by kernel_rfl) (by kernel_rfl) ?hQT3h ?hyT3h hS ?restT3h
                case hiT3h =>
                  simp only [List.getElem?_toArray, List.getElem?_cons_succ, List.getElem?_cons_zero]
                  exact rfl
                case hQT3h => exact fun _ _ _ h => h
                case hyT3h =>
                  refine Or.inl ⟨by rfl, ?_⟩
                  intro w hSw
                  (try dsimp only at hSw)
                  go_simp
                  (try with_reducible rfl)
                (try simp only [Act.put, List.setIfInBounds_toArray, List.set_cons_zero, List.set_cons_succ])
                refine' wpAnyH_take (i := 4) (oi := ?oiT4h) (v := ?vT4h) ?hiT4h (by kernel_rfl) (by kernel_rfl) (by kernel_rfl) ?hQT4h ?hyT4h hS ?restT4h
                case hiT4h =>
                  simp only [List.getElem?_toArray, List.getElem?_cons_succ, List.getElem?_cons_zero]
                  exact rfl
                case hQT4h => exact fun _ _ _ h => h
                case hyT4h =>
                  refine Or.inl ⟨by rfl, ?_⟩
                  intro w hSw
                  (try dsimp only at hSw)
                  go_simp
                  (try with_reducible rfl)
                (try simp only [Act.put, List.setIfInBounds_toArray, List.set_cons_zero, List.set_cons_succ])
                refine' wpAnyH_take (i := 5) (oi := ?oiT5h) (v := ?vT5h) ?hiT5h (by kernel_rfl) (by kernel_rfl) (by kernel_rfl) ?hQT5h ?hyT5h hS ?restT5h
                case hiT5h =>
                  simp only [List.getElem?_toArray, List.getElem?_cons_succ, List.getElem?_cons_zero]
                  exact rfl
                case hQT5h => exact fun _ _ _ h => h
                case hyT5h =>
                  refine Or.inl ⟨by rfl, ?_⟩
                  intro w hSw
                  (try dsimp only at hSw)
                  go_simp
                  (try with_reducible rfl)
                (try simp only [Act.put, List.setIfInBounds_toArray, List.set_cons_zero, List.set_cons_succ])
                refine' wpAnyH_take (i := 6) (oi := ?oiS6h) (v := undef) ?hiS6h (by kernel_rfl) (by kernel_rfl) (by kernel_rfl) ?hQS6h ?hyS6h hS ?restS6h
                case hiS6h =>
                  simp only [List.getElem?_toArray, List.getElem?_cons_succ, List.getElem?_cons_zero]
                  exact rfl
                case hQS6h => exact fun _ _ _ h => h
                case hyS6h => exact Or.inr ⟨by rfl, rfl⟩
                (try simp only [Act.put, List.setIfInBounds_toArray, List.set_cons_zero, List.set_cons_succ])
                refine' wpAnyH_take (i := 7) (oi := ?oiS7h) (v := undef) ?hiS7h (by kernel_rfl) (by kernel_rfl) (by kernel_rfl) ?hQS7h ?hyS7h hS ?restS7h
                case hiS7h =>
                  simp only [List.getElem?_toArray, List.getElem?_cons_succ, List.getElem?_cons_zero]
                  exact rfl
                case hQS7h => exact fun _ _ _ h => h
                case hyS7h => exact Or.inr ⟨by rfl, rfl⟩
                (try simp only [Act.put, List.setIfInBounds_toArray, List.set_cons_zero, List.set_cons_succ])
                refine' wpAnyH_take (i := 8) (oi := ?oiS8h) (v := undef) ?hiS8h (by kernel_rfl) (by kernel_rfl) (by kernel_rfl) ?hQS8h ?hyS8h hS ?restS8h
                case hiS8h =>
                  simp only [List.getElem?_toArray, List.getElem?_cons_succ, List.getElem?_cons_zero]
                  exact rfl
                case hQS8h => exact fun _ _ _ h => h
                case hyS8h => exact Or.inr ⟨by rfl, rfl⟩
                (try simp only [Act.put, List.setIfInBounds_toArray, List.set_cons_zero, List.set_cons_succ])
                refine' wpAnyH_take (i := 9) (oi := ?oiS9h) (v := undef) ?hiS9h (by kernel_rfl) (by kernel_rfl) (by kernel_rfl) ?hQS9h ?hyS9h hS ?restS9h
                case hiS9h =>
                  simp only [List.getElem?_toArray, List.getElem?_cons_succ, List.getElem?_cons_zero]
                  exact rfl
                case hQS9h => exact fun _ _ _ h => h
                case hyS9h => exact Or.inr ⟨by rfl, rfl⟩
                (try simp only [Act.put, List.setIfInBounds_toArray, List.set_cons_zero, List.set_cons_succ])
                refine' wpAnyH_take (i := 10) (oi := ?oiS10h) (v := undef) ?hiS10h (by kernel_rfl) (by kernel_rfl) (by kernel_rfl) ?hQS10h ?hyS10h hS ?restS10h
                case hiS10h =>
                  simp only [List.getElem?_toArray, List.getElem?_cons_succ, List.getElem?_cons_zero]
                  exact rfl
                case hQS10h => exact fun _ _ _ h => h
                case hyS10h => exact Or.inr ⟨by rfl, rfl⟩
                (try simp only [Act.put, List.setIfInBounds_toArray, List.set_cons_zero, List.set_cons_succ])
                refine' wpAnyH_take (i := 11) (oi := ?oiS11h) (v := undef) ?hiS11h (by kernel_rfl) (by kernel_rfl) (by kernel_rfl) ?hQS11h ?hyS11h hS ?restS11h
                case hiS11h =>
                  simp only [List.getElem?_toArray, List.getElem?_cons_succ, List.getElem?_cons_zero]
                  exact rfl
                case hQS11h => exact fun _ _ _ h => h
                case hyS11h => exact Or.inr ⟨by rfl, rfl⟩
                (try simp only [Act.put, List.setIfInBounds_toArray, List.set_cons_zero, List.set_cons_succ])
                refine' wpAnyH_take (i := 12) (oi := ?oiS12h) (v := undef) ?hiS12h (by kernel_rfl) (by kernel_rfl) (by kernel_rfl) ?hQS12h ?hyS12h hS ?restS12h
                case hiS12h =>
                  simp only [List.getElem?_toArray, List.getElem?_cons_succ, List.getElem?_cons_zero]
                  exact rfl
                case hQS12h => exact fun _ _ _ h => h
                case hyS12h => exact Or.inr ⟨by rfl, rfl⟩
                (try simp only [Act.put, List.setIfInBounds_toArray, List.set_cons_zero, List.set_cons_succ])
                refine' wpAnyH_take (i := 13) (oi := ?oiS13h) (v := undef) ?hiS13h (by kernel_rfl) (by kernel_rfl) (by kernel_rfl) ?hQS13h ?hyS13h hS ?restS13h
                case hiS13h =>
                  simp only [List.getElem?_toArray, List.getElem?_cons_succ, List.getElem?_cons_zero]
                  exact rfl
                case hQS13h => exact fun _ _ _ h => h
                case hyS13h => exact Or.inr ⟨by rfl, rfl⟩
                (try simp only [Act.put, List.setIfInBounds_toArray, List.set_cons_zero, List.set_cons_succ])
                refine' wpAnyH_take (i := 14) (oi := ?oiS14h) (v := undef) ?hiS14h (by kernel_rfl) (by kernel_rfl) (by kernel_rfl) ?hQS14h ?hyS14h hS ?restS14h
                case hiS14h =>
                  simp only [List.getElem?_toArray, List.getElem?_cons_succ, List.getElem?_cons_zero]
                  exact rfl
                case hQS14h => exact fun _ _ _ h => h
                case hyS14h => exact Or.inr ⟨by rfl, rfl⟩
                (try simp only [Act.put, List.setIfInBounds_toArray, List.set_cons_zero, List.set_cons_succ])
                refine' wpAnyH_take (i := 15) (oi := ?oiS15h) (v := undef) ?hiS15h (by kernel_rfl) (by kernel_rfl) (by kernel_rfl) ?hQS15h ?hyS15h hS ?restS15h
                case hiS15h =>
                  simp only [List.getElem?_toArray, List.getElem?_cons_succ, List.getElem?_cons_zero]
                  exact rfl
                case hQS15h => exact fun _ _ _ h => h
                case hyS15h => exact Or.inr ⟨by rfl, rfl⟩
                (try simp only [Act.put, List.setIfInBounds_toArray, List.set_cons_zero, List.set_cons_succ])
                refine' wpAnyH_take (i := 16) (oi := ?oiS16h) (v := undef) ?hiS16h (by kernel_rfl) (by kernel_rfl) (by kernel_rfl) ?hQS16h ?hyS16h hS ?restS16h
                case hiS16h =>
                  simp only [List.getElem?_toArray, List.getElem?_cons_succ, List.getElem?_cons_zero]
                  exact rfl
                case hQS16h => exact fun _ _ _ h => h
                case hyS16h => exact Or.inr ⟨by rfl, rfl⟩
                (try simp only [Act.put, List.setIfInBounds_toArray, List.set_cons_zero, List.set_cons_succ])
                refine' wpAnyH_take (i := 17) (oi := ?oiS17h) (v := undef) ?hiS17h (by kernel_rfl) (by kernel_rfl) (by kernel_rfl) ?hQS17h ?hyS17h hS ?restS17h
                case hiS17h =>
                  simp only [List.getElem?_toArray, List.getElem?_cons_succ, List.getElem?_cons_zero]
                  exact rfl
                case hQS17h => exact fun _ _ _ h => h
                case hyS17h => exact Or.inr ⟨by rfl, rfl⟩
                (try simp only [Act.put, List.setIfInBounds_toArray, List.set_cons_zero, List.set_cons_succ])
                refine' wpAnyH_take (i := 18) (oi := ?oiT18h) (v := ?vT18h) ?hiT18h (by kernel_rfl) (by kernel_rfl) (by kernel_rfl) ?hQT18h ?hyT18h hS ?restT18h
                case hiT18h =>
                  simp only [List.getElem?_toArray, List.getElem?_cons_succ, List.getElem?_cons_zero]
                  exact rfl
                case hQT18h => exact fun _ _ _ h => h
                case hyT18h =>
                  refine Or.inl ⟨by rfl, ?_⟩
                  intro w hSw
                  (try dsimp only at hSw)
                  go_simp
                  (try with_reducible rfl)
                (try simp only [Act.put, List.setIfInBounds_toArray, List.set_cons_zero, List.set_cons_succ])
                refine' wpAnyH_take (i := 19) (oi := ?oiT19h) (v := ?vT19h) ?hiT19h (by kernel_rfl) (by kernel_rfl) (by kernel_rfl) ?hQT19h ?hyT19h hS ?restT19h
                case hiT19h =>
                  simp only [List.getElem?_toArray, List.getElem?_cons_succ, List.getElem?_cons_zero]
                  exact rfl
                case hQT19h => exact fun _ _ _ h => h
                case hyT19h =>
                  refine Or.inl ⟨by rfl, ?_⟩
                  intro w hSw
                  (try dsimp only at hSw)
                  go_simp
                  (try with_reducible rfl)
                (try simp only [Act.put, List.setIfInBounds_toArray, List.set_cons_zero, List.set_cons_succ])
                refine wpAnyH_done (by kernel_rfl) ?_ _
                have hB6 := hS
                have hBr6 := hb2.trans (hB6.mono hb2.size)
                clear hS
                go_wp2
                go_ret2
                exact ⟨by rw [PV.out]; rfl, hBr6⟩
end Go.Proofs.YtmiahbaadlddjaaDoor
