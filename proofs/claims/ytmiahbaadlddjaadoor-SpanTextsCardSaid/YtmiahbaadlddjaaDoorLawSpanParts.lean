/- belfrylaw2.SpanParts: for every five numbers the law returns true. -/
import Derived.Test.YtmiahbaadlddjaaDoorErr
import Derived.Test.YtmiahbaadlddjaaDoorRefI
namespace Go.Proofs.YtmiahbaadlddjaaDoor
open Go Go.Proofs Go.RowKit Go.Shelf
set_option maxRecDepth 100000
theorem ref_decimal (n : Nat) (h : n < 9223372036854775808) (W : World) :
    Calls Tryd.prog 24 #[.int .i64 (n : Int)] W fun e w' => e = .returned (.string ⟨(Lib.decDigits n).toArray⟩) ∧ Below W.heap.size W w' := by
  have O := Lib.hid (fun W => ref_of (n : Int) ⟨by omega, by omega⟩ W)
  rw [show (n : Int) / 9223372036854775808 = 0 by omega, show (n : Int) % 18446744073709551616 = (n : Int) by omega] at O
  have T := Lib.hid (fun W => ref_text 0 (n : Int) ⟨by omega, by omega, by omega, by omega⟩ W)
  rw [show Lib.itoa (val 0 (n : Int)) = Lib.decDigits n by unfold val Lib.itoa; rw [if_neg (by omega)]; congr 1; omega] at T
  go_enter Tryd.func24, Tryd.ntmps24
  go_wp2_with fail
  refine (O.out _).mono ?_
  rintro e w1 ⟨rfl, hb1⟩
  go_wp2_with fail
  refine (T.out _).mono ?_
  rintro e w2 ⟨rfl, hb2⟩
  go_wp2
  go_ret
  exact ⟨rfl, below_then hb1 hb2⟩
def sizesL : List Value := [.int .i64 86400000, .int .i64 3600000, .int .i64 60000, .int .i64 1000, .int .i64 1]
def wordsL : List Value := [.string ⟨#[100]⟩, .string ⟨#[104]⟩, .string ⟨#[109]⟩, .string ⟨#[115]⟩, .string ⟨#[109, 115]⟩]
theorem units_any (W : World) :
    Calls Tryd.prog 23 #[] W fun e w' => e = .returned (.tuple #[.slice (some ⟨W.heap.size, 0, none⟩) 5 5, .slice (some ⟨W.heap.size + 1, 0, none⟩) 5 5]) ∧ At w' W.heap.size sizesL ∧ At w' (W.heap.size + 1) wordsL ∧ Below W.heap.size W w' := by
  have A1 : At ((W.alloc (.cells #[.int .i64 86400000, .int .i64 3600000, .int .i64 60000, .int .i64 1000, .int .i64 1] 2)).alloc (.cells #[.string ⟨#[100]⟩, .string ⟨#[104]⟩, .string ⟨#[109]⟩, .string ⟨#[115]⟩, .string ⟨#[109, 115]⟩] 9)) W.heap.size sizesL := (At.new W #[.int .i64 86400000, .int .i64 3600000, .int .i64 60000, .int .i64 1000, .int .i64 1] 2).alloc _
  have A2 : At ((W.alloc (.cells #[.int .i64 86400000, .int .i64 3600000, .int .i64 60000, .int .i64 1000, .int .i64 1] 2)).alloc (.cells #[.string ⟨#[100]⟩, .string ⟨#[104]⟩, .string ⟨#[109]⟩, .string ⟨#[115]⟩, .string ⟨#[109, 115]⟩] 9)) (W.heap.size + 1) wordsL := by
    have h := At.new (W.alloc (.cells #[.int .i64 86400000, .int .i64 3600000, .int .i64 60000, .int .i64 1000, .int .i64 1] 2)) #[.string ⟨#[100]⟩, .string ⟨#[104]⟩, .string ⟨#[109]⟩, .string ⟨#[115]⟩, .string ⟨#[109, 115]⟩] 9
    rw [World.size_alloc] at h
    exact h
  have H1 := Lib.hid A1
  have H2 := Lib.hid A2
  clear A1 A2
  go_enter Tryd.func23, Tryd.ntmps23
  go_wp2
  go_ret2
  exact ⟨rfl, H1.out, H2.out, by go_grown⟩
theorem size_at (u : Fin 5) : sizesL[u.val]? = some (.int .i64 (unitSize u : Int)) := by
  match u with
  | 0 => rfl
  | 1 => rfl
  | 2 => rfl
  | 3 => rfl
  | 4 => rfl
theorem word_at (u : Fin 5) : wordsL[u.val]? = some (.string ⟨(unitWord u).toArray⟩) := by
  match u with
  | 0 => rfl
  | 1 => rfl
  | 2 => rfl
  | 3 => rfl
  | 4 => rfl
def qV (q : Fin 5 → Nat) : List Value := [.int .i64 (q 0 : Int), .int .i64 (q 1 : Int), .int .i64 (q 2 : Int), .int .i64 (q 3 : Int), .int .i64 (q 4 : Int)]
theorem q_at (q : Fin 5 → Nat) (u : Fin 5) : (qV q)[u.val]? = some (.int .i64 (q u : Int)) := by
  match u with
  | 0 => rfl
  | 1 => rfl
  | 2 => rfl
  | 3 => rfl
  | 4 => rfl
/-- the parts' texts, their sum -/
def pT (q : Fin 5 → Nat) (us : List (Fin 5)) : List UInt8 := us.flatMap fun u => if 0 < q u then Lib.decDigits (q u) ++ unitWord u else []
def pS (q : Fin 5 → Nat) (us : List (Fin 5)) : Nat := (us.map fun u => q u * unitSize u).sum
theorem pT_snoc (q : Fin 5 → Nat) (us : List (Fin 5)) (u : Fin 5) : pT q (us ++ [u]) = pT q us ++ (if 0 < q u then Lib.decDigits (q u) ++ unitWord u else []) := by
  simp [pT]
theorem pS_snoc (q : Fin 5 → Nat) (us : List (Fin 5)) (u : Fin 5) : pS q (us ++ [u]) = pS q us + q u * unitSize u := by
  simp [pS, List.sum_append]
theorem five_take (k : Nat) (h : k < 5) : ([0, 1, 2, 3, 4] : List (Fin 5)).take (k + 1) = ([0, 1, 2, 3, 4] : List (Fin 5)).take k ++ [⟨k, h⟩] := by
  match k, h with
  | 0, _ => rfl
  | 1, _ => rfl
  | 2, _ => rfl
  | 3, _ => rfl
  | 4, _ => rfl
theorem pS_le (q : Fin 5 → Nat) (hq : ∀ u, q u ≤ 999) (us : List (Fin 5)) : pS q us ≤ us.length * 86313600000 := by
  unfold pS
  induction us with
  | nil => simp
  | cons u t ih =>
    rw [List.map_cons, List.sum_cons, List.length_cons]
    have h1 : q u * unitSize u ≤ 999 * 86400000 := Nat.mul_le_mul (hq u) (unitSize_bd u).2
    omega
theorem pT_len (q : Fin 5 → Nat) (hq : ∀ u, q u ≤ 999) (us : List (Fin 5)) : (pT q us).length ≤ us.length * 22 := by
  unfold pT
  induction us with
  | nil => simp
  | cons u t ih =>
    rw [List.flatMap_cons, List.length_append, List.length_cons]
    have h1 : (if 0 < q u then Lib.decDigits (q u) ++ unitWord u else []).length ≤ 22 := by
      split
      · rw [List.length_append]
        have := decLen (q u) (by have := hq u; omega)
        have := unitWord_len u
        omega
      · simp
    omega
theorem tx_part (u : Fin 5) (us : List (Fin 5)) (q r : Nat) (h : r < unitSize u) : tx (u :: us) (q * unitSize u + r) = (if 0 < q then Lib.decDigits q ++ unitWord u else []) ++ tx us r := by
  rw [tx_cons, (div_part q r _ h).1, (div_part q r _ h).2]
theorem pS_cons (q : Fin 5 → Nat) (u : Fin 5) (us : List (Fin 5)) : pS q (u :: us) = q u * unitSize u + pS q us := by
  unfold pS; rw [List.map_cons, List.sum_cons]
theorem pT_cons (q : Fin 5 → Nat) (u : Fin 5) (us : List (Fin 5)) : pT q (u :: us) = (if 0 < q u then Lib.decDigits (q u) ++ unitWord u else []) ++ pT q us := by
  unfold pT; rw [List.flatMap_cons]
theorem parts_tx (q : Fin 5 → Nat) (h1 : q 1 ≤ 23) (h2 : q 2 ≤ 59) (h3 : q 3 ≤ 59) (h4 : q 4 ≤ 999) : pT q [0, 1, 2, 3, 4] = tx [0, 1, 2, 3, 4] (pS q [0, 1, 2, 3, 4]) := by
  have s0 : unitSize 0 = 86400000 := rfl
  have s1 : unitSize 1 = 3600000 := rfl
  have s2 : unitSize 2 = 60000 := rfl
  have s3 : unitSize 3 = 1000 := rfl
  have s4 : unitSize 4 = 1 := rfl
  have c5 : pS q [] = 0 := rfl
  have c4 := pS_cons q 4 []
  have c3 := pS_cons q 3 [4]
  have c2 := pS_cons q 2 [3, 4]
  have c1 := pS_cons q 1 [2, 3, 4]
  rw [s4] at c4
  rw [s3] at c3
  rw [s2] at c2
  rw [s1] at c1
  rw [pS_cons, tx_part 0 _ _ _ (by rw [s0]; omega), pS_cons, tx_part 1 _ _ _ (by rw [s1]; omega), pS_cons, tx_part 2 _ _ _ (by rw [s2]; omega), pS_cons, tx_part 3 _ _ _ (by rw [s3]; omega), pS_cons, tx_part 4 _ _ _ (by rw [s4, c5]; omega)]
  rw [pT_cons, pT_cons, pT_cons, pT_cons, pT_cons]
  rfl
theorem at_cell {w w' : World} {b : Nat} {l : List Value} (h : At w b l) (hb : Below w.heap.size w w') (k : Nat) (v : Value) (hv : l[k]? = some v) : w'.cell? ⟨b, k, none⟩ = some v :=
  (hb.cell (p := ⟨b, k, none⟩) h.lt).trans (h.cell k v hv)
set_option maxHeartbeats 4000000 in
theorem parts_law (d h m s ms : Nat) (hd : d ≤ 255) (hh : h ≤ 255) (hm : m ≤ 255) (hs : s ≤ 255) (hms : ms ≤ 65535) (w : World) (ht : Tab w) (he : ErrOk w) :
    Calls Tryd.prog 7 #[.int .u8 (d : Int), .int .u8 (h : Int), .int .u8 (m : Int), .int .u8 (s : Int), .int .u16 (ms : Int)] w fun e w' => e = .returned (.bool true) ∧ Below w.heap.size w w' := by
  have K := Lib.hid (known_any w ht)
  have HT := Lib.hid ht
  have HE := Lib.hid he
  clear ht he
  have U := Lib.hid (fun W => units_any W)
  obtain ⟨qf, hqf⟩ : ∃ qf : Fin 5 → Nat, qf = fun | 0 => d | 1 => h % 24 | 2 => m % 60 | 3 => s % 60 | 4 => ms % 1000 := ⟨_, rfl⟩
  have f0 : qf 0 = d := by rw [hqf]
  have f1 : qf 1 = h % 24 := by rw [hqf]
  have f2 : qf 2 = m % 60 := by rw [hqf]
  have f3 : qf 3 = s % 60 := by rw [hqf]
  have f4 : qf 4 = ms % 1000 := by rw [hqf]
  have hq : ∀ u, qf u ≤ 999 := by
    intro u
    match u with
    | 0 => omega
    | 1 => omega
    | 2 => omega
    | 3 => omega
    | 4 => omega
  have HP := Lib.hid (parts_tx qf (by omega) (by omega) (by omega) (by omega))
  have HSl := Lib.hid (pS_le qf hq)
  have HTl := Lib.hid (pT_len qf hq)
  have HQ := Lib.hid hq
  have e1 : (h : Int) % 24 = (qf 1 : Int) := by omega
  have e2 : (m : Int) % 60 = (qf 2 : Int) := by omega
  have e3 : (s : Int) % 60 = (qf 3 : Int) := by omega
  have e4 : (ms : Int) % 1000 = (qf 4 : Int) := by omega
  have e0 : (d : Int) = (qf 0 : Int) := by omega
  have b1 : (qf 1 : Int) ≤ 23 := by omega
  have b2 : (qf 2 : Int) ≤ 59 := by omega
  have b3 : (qf 3 : Int) ≤ 59 := by omega
  have b4 : (qf 4 : Int) ≤ 999 := by omega
  have hh' : (h : Int) ≤ 255 := by omega
  have hm' : (m : Int) ≤ 255 := by omega
  have hs' : (s : Int) ≤ 255 := by omega
  have hms' : (ms : Int) ≤ 65535 := by omega
  have hd' : (d : Int) ≤ 255 := by omega
  have HE0 := Lib.hid e0
  clear hqf hq f0 f1 f2 f3 f4 e0
  go_enter Tryd.func7, Tryd.ntmps7
  go_wp2_with fail
  refine K.out.mono ?_
  rintro e w1 ⟨rfl, hb1⟩
  have hbv : Below w.heap.size w (w1.alloc (.cells #[.int .i64 (d : Int), .int .i64 (qf 1 : Int), .int .i64 (qf 2 : Int), .int .i64 (qf 3 : Int), .int .i64 (qf 4 : Int)] 2)) := below_new hb1 _
  have AV : At (w1.alloc (.cells #[.int .i64 (d : Int), .int .i64 (qf 1 : Int), .int .i64 (qf 2 : Int), .int .i64 (qf 3 : Int), .int .i64 (qf 4 : Int)] 2)) w1.heap.size (qV qf) := by
    have hx := At.new w1 #[.int .i64 (d : Int), .int .i64 (qf 1 : Int), .int .i64 (qf 2 : Int), .int .i64 (qf 3 : Int), .int .i64 (qf 4 : Int)] 2
    rw [HE0.out] at hx
    rw [HE0.out]
    exact hx
  have HV := Lib.hid AV
  have HB := Lib.hid hbv
  clear hb1 AV hbv
  go_wp2_with fail
  refine (U.out _).mono ?_
  rintro e w2 ⟨rfl, a1, a2, hb2⟩
  have AV := HV.out.below hb2
  have hB2 := HB.out.trans (hb2.mono HB.out.size)
  rw [World.size_alloc] at a1 a2
  have A0 := Lib.hid AV
  have A1 := Lib.hid a1
  have A2 := Lib.hid a2
  have T2 := Lib.hid (HT.out.below hB2)
  have E2 := Lib.hid (HE.out.below hB2)
  have hB := hB2
  clear AV a1 a2 hb2 HV HB HE0 hB2 e1 e2 e3 e4
  simp only [World.size_alloc]
  generalize w1.heap.size + 1 + 1 = b2 at *
  generalize w1.heap.size + 1 = b1 at *
  generalize w1.heap.size = b0 at *
  go_wp2
  go_loopw [14, 15, 16] (fun t sm i wr => ∃ k : Nat, k ≤ 5 ∧ i = .int .i64 k ∧ t = .string ⟨(pT qf (([0, 1, 2, 3, 4] : List (Fin 5)).take k)).toArray⟩ ∧ sm = .int .i64 (pS qf (([0, 1, 2, 3, 4] : List (Fin 5)).take k) : Int) ∧ Below w2.heap.size w2 wr) (fun _ _ i _ => 5 - (intOf i).toNat)
  case atStart => exact ⟨0, Nat.zero_le _, rfl, rfl, rfl, Below.refl _ _⟩
  case round =>
    obtain ⟨k, hk, rfl, rfl, rfl, hB3⟩ := hrel
    by_cases hlt : k < 5
    · have x0 := at_cell A0.out hB3 k _ (q_at qf ⟨k, hlt⟩)
      have x1 := at_cell A1.out hB3 k _ (size_at ⟨k, hlt⟩)
      have x2 := at_cell A2.out hB3 k _ (word_at ⟨k, hlt⟩)
      have sT := pT_snoc qf (([0, 1, 2, 3, 4] : List (Fin 5)).take k) ⟨k, hlt⟩
      have sS := pS_snoc qf (([0, 1, 2, 3, 4] : List (Fin 5)).take k) ⟨k, hlt⟩
      rw [← five_take k hlt] at sT sS
      have lS := HSl.out (([0, 1, 2, 3, 4] : List (Fin 5)).take k)
      have lT := HTl.out (([0, 1, 2, 3, 4] : List (Fin 5)).take k)
      rw [List.length_take] at lS lT
      have hqk := HQ.out ⟨k, hlt⟩
      obtain ⟨z1, z2⟩ := unitSize_bd ⟨k, hlt⟩
      have hwl := unitWord_len ⟨k, hlt⟩
      have hlt' : (k : Int) < 5 := by omega
      generalize pT qf (([0, 1, 2, 3, 4] : List (Fin 5)).take k) = P at *
      generalize pS qf (([0, 1, 2, 3, 4] : List (Fin 5)).take k) = S at *
      generalize qf ⟨k, hlt⟩ = q at *
      generalize unitSize ⟨k, hlt⟩ = z at *
      generalize unitWord ⟨k, hlt⟩ = wd at *
      have hlS : S ≤ 431568000000 := by simp at lS; omega
      have hlP : P.length ≤ 110 := by simp at lT; omega
      have hqz : q * z ≤ 86313600000 := Nat.mul_le_mul hqk z2
      have ST := Lib.hid sT
      have SS := Lib.hid sS
      have m1 : IntKind.i64.wrap ((q : Int) * (z : Int)) = (q : Int) * (z : Int) := by rw [IntKind.wrap_i64, show (q : Int) * (z : Int) = ((q * z : Nat) : Int) by simp]; omega
      have m2 : IntKind.i64.wrap ((S : Int) + (q : Int) * (z : Int)) = (S : Int) + (q : Int) * (z : Int) := by rw [IntKind.wrap_i64, show (q : Int) * (z : Int) = ((q * z : Nat) : Int) by simp]; omega
      clear sT sS lS lT hqz z1 z2
      have hlS' : (S : Int) ≤ 431568000000 := by omega
      by_cases h0 : 0 < q
      · have h0' : (0 : Int) < (q : Int) := by omega
        have D := Lib.hid (fun W => ref_decimal q (by omega) W)
        have hdl := decLen q (by omega)
        generalize Lib.decDigits q = dq at *
        have g1 : ¬ 9223372036854775807 < P.length + dq.length := by omega
        have g2 : ¬ 9223372036854775807 < P.length + dq.length + wd.length := by omega
        have g3 : P.length + dq.length ≤ 9223372036854775807 := by omega
        have g4 : P.length + dq.length + wd.length ≤ 9223372036854775807 := by omega
        clear h0
        go_wp2
        refine wp_region_held_drew (S := fun w' => w'.cell? ⟨b0, k, none⟩ = some (.int .i64 (q : Int)) ∧ w'.cell? ⟨b1, k, none⟩ = some (.int .i64 (z : Int)) ∧ w'.cell? ⟨b2, k, none⟩ = some (.string ⟨wd.toArray⟩) ∧ Below w2.heap.size w2 w') (by kernel_rfl) ?_ (fun hS => ?_)
        · (try dsimp only)
          (repeat' apply And.intro) <;> first | go_cell | exact hB3.drew
        refine' wpAnyH_take (i := 0) (oi := ?oiT0p) (v := ?vT0p) ?hiT0p (by kernel_rfl) (by kernel_rfl) (by kernel_rfl) ?hQT0p ?hyT0p hS ?restT0p
        case hiT0p =>
          simp only [List.getElem?_toArray, List.getElem?_cons_succ, List.getElem?_cons_zero]
          exact rfl
        case hQT0p => exact fun _ _ _ h => h
        case hyT0p =>
          refine Or.inl ⟨by rfl, ?_⟩
          intro w hSw
          (try dsimp only at hSw)
          go_simp
          (try with_reducible rfl)
        (try simp only [Act.put, List.setIfInBounds_toArray, List.set_cons_zero, List.set_cons_succ])
        refine' wpAnyH_take (i := 1) (oi := ?oiT1p) (v := ?vT1p) ?hiT1p (by kernel_rfl) (by kernel_rfl) (by kernel_rfl) ?hQT1p ?hyT1p hS ?restT1p
        case hiT1p =>
          simp only [List.getElem?_toArray, List.getElem?_cons_succ, List.getElem?_cons_zero]
          exact rfl
        case hQT1p => exact fun _ _ _ h => h
        case hyT1p =>
          refine Or.inl ⟨by rfl, ?_⟩
          intro w hSw
          (try dsimp only at hSw)
          go_simp
          (try with_reducible rfl)
        (try simp only [Act.put, List.setIfInBounds_toArray, List.set_cons_zero, List.set_cons_succ])
        refine' wpAnyH_take (i := 2) (oi := ?oiT2p) (v := ?vT2p) ?hiT2p (by kernel_rfl) (by kernel_rfl) (by kernel_rfl) ?hQT2p ?hyT2p hS ?restT2p
        case hiT2p =>
          simp only [List.getElem?_toArray, List.getElem?_cons_succ, List.getElem?_cons_zero]
          exact rfl
        case hQT2p => exact fun _ _ _ h => h
        case hyT2p =>
          refine Or.inl ⟨by rfl, ?_⟩
          intro w hSw
          (try dsimp only at hSw)
          go_simp
          (try with_reducible rfl)
        (try simp only [Act.put, List.setIfInBounds_toArray, List.set_cons_zero, List.set_cons_succ])
        refine' wpAnyH_take (i := 3) (oi := ?oiT3p) (v := ?vT3p) ?hiT3p (by kernel_rfl) (by kernel_rfl) (by kernel_rfl) ?hQT3p ?hyT3p hS ?restT3p
        case hiT3p =>
          simp only [List.getElem?_toArray, List.getElem?_cons_succ, List.getElem?_cons_zero]
          exact rfl
        case hQT3p => exact fun _ _ _ h => h
        case hyT3p =>
          refine Or.inl ⟨by rfl, ?_⟩
          intro w hSw
          (try dsimp only at hSw)
          go_simp
          (try with_reducible rfl)
        (try simp only [Act.put, List.setIfInBounds_toArray, List.set_cons_zero, List.set_cons_succ])
        refine' wpAnyH_take (i := 4) (oi := ?oiT4p) (v := ?vT4p) ?hiT4p (by kernel_rfl) (by kernel_rfl) (by kernel_rfl) ?hQT4p ?hyT4p hS ?restT4p
        case hiT4p =>
          simp only [List.getElem?_toArray, List.getElem?_cons_succ, List.getElem?_cons_zero]
          exact rfl
        case hQT4p => exact fun _ _ _ h => h
        case hyT4p =>
          refine Or.inl ⟨by rfl, ?_⟩
          intro w hSw
          (try dsimp only at hSw)
          go_simp
          (try with_reducible rfl)
        (try simp only [Act.put, List.setIfInBounds_toArray, List.set_cons_zero, List.set_cons_succ])
        refine' wpAnyH_take (i := 7) (oi := ?oiT7p) (v := ?vT7p) ?hiT7p (by kernel_rfl) (by kernel_rfl) (by kernel_rfl) ?hQT7p ?hyT7p hS ?restT7p
        case hiT7p =>
          simp only [List.getElem?_toArray, List.getElem?_cons_succ, List.getElem?_cons_zero]
          exact rfl
        case hQT7p => exact fun _ _ _ h => h
        case hyT7p =>
          refine Or.inl ⟨by rfl, ?_⟩
          intro w hSw
          (try dsimp only at hSw)
          go_simp
          (try with_reducible rfl)
        (try simp only [Act.put, List.setIfInBounds_toArray, List.set_cons_zero, List.set_cons_succ])
        refine' wpAnyH_take (i := 8) (oi := ?oiT8p) (v := ?vT8p) ?hiT8p (by kernel_rfl) (by kernel_rfl) (by kernel_rfl) ?hQT8p ?hyT8p hS ?restT8p
        case hiT8p =>
          simp only [List.getElem?_toArray, List.getElem?_cons_succ, List.getElem?_cons_zero]
          exact rfl
        case hQT8p => exact fun _ _ _ h => h
        case hyT8p =>
          refine Or.inl ⟨by rfl, ?_⟩
          intro w hSw
          (try dsimp only at hSw)
          go_simp
          (try with_reducible rfl)
        (try simp only [Act.put, List.setIfInBounds_toArray, List.set_cons_zero, List.set_cons_succ])
        refine' wpAnyH_take (i := 9) (oi := ?oiT9p) (v := ?vT9p) ?hiT9p (by kernel_rfl) (by kernel_rfl) (by kernel_rfl) ?hQT9p ?hyT9p hS ?restT9p
        case hiT9p =>
          simp only [List.getElem?_toArray, List.getElem?_cons_succ, List.getElem?_cons_zero]
          exact rfl
        case hQT9p => exact fun _ _ _ h => h
        case hyT9p =>
          refine Or.inl ⟨by rfl, ?_⟩
          intro w hSw
          (try dsimp only at hSw)
          go_simp
          (try with_reducible rfl)
        (try simp only [Act.put, List.setIfInBounds_toArray, List.set_cons_zero, List.set_cons_succ])
        refine' wpAnyH_take (i := 10) (oi := ?oiT10p) (v := ?vT10p) ?hiT10p (by kernel_rfl) (by kernel_rfl) (by kernel_rfl) ?hQT10p ?hyT10p hS ?restT10p
        case hiT10p =>
          simp only [List.getElem?_toArray, List.getElem?_cons_succ, List.getElem?_cons_zero]
          exact rfl
        case hQT10p => exact fun _ _ _ h => h
        case hyT10p =>
          refine Or.inl ⟨by rfl, ?_⟩
          intro w hSw
          (try dsimp only at hSw)
          go_simp
          (try with_reducible rfl)
        (try simp only [Act.put, List.setIfInBounds_toArray, List.set_cons_zero, List.set_cons_succ])
        refine wpAnyH_ready (rs := [5]) (by kernel_rfl) (by simp) ?_
        refine' AllReadyH.cons (o := ?ooC5p) ?hoC5p (fun K hK => ?stepC5p) AllReadyH.nil
        case hoC5p =>
          simp only [List.getElem?_toArray, List.getElem?_cons_succ, List.getElem?_cons_zero]
          exact rfl
        go_simp
        go_at_call 24
        refine (D.out _).mono ?_
        rintro e w1 ⟨rfl, hb1⟩
        go_wp2_with fail
        refine hK.out _ _ ?_ (fun hS => ?_)
        · (try dsimp only)
          go_split_ands
          (repeat' apply And.intro) <;> first | (refine cell_later hb1 ?_; with_reducible assumption) | (refine below_then ?_ hb1; with_reducible assumption)
        clear hK K hb1
        (try simp only [Act.put, List.setIfInBounds_toArray, List.set_cons_zero, List.set_cons_succ])
        refine' wpAnyH_take (i := 6) (oi := ?oiT6p) (v := ?vT6p) ?hiT6p (by kernel_rfl) (by kernel_rfl) (by kernel_rfl) ?hQT6p ?hyT6p hS ?restT6p
        case hiT6p =>
          simp only [List.getElem?_toArray, List.getElem?_cons_succ, List.getElem?_cons_zero]
          exact rfl
        case hQT6p => exact fun _ _ _ h => h
        case hyT6p =>
          refine Or.inl ⟨by rfl, ?_⟩
          intro w hSw
          (try dsimp only at hSw)
          go_simp
          (try with_reducible rfl)
        (try simp only [Act.put, List.setIfInBounds_toArray, List.set_cons_zero, List.set_cons_succ])
        refine' wpAnyH_take (i := 11) (oi := ?oiT11p) (v := ?vT11p) ?hiT11p (by kernel_rfl) (by kernel_rfl) (by kernel_rfl) ?hQT11p ?hyT11p hS ?restT11p
        case hiT11p =>
          simp only [List.getElem?_toArray, List.getElem?_cons_succ, List.getElem?_cons_zero]
          exact rfl
        case hQT11p => exact fun _ _ _ h => h
        case hyT11p =>
          refine Or.inl ⟨by rfl, ?_⟩
          intro w hSw
          (try dsimp only at hSw)
          go_simp
          (try with_reducible rfl)
        (try simp only [Act.put, List.setIfInBounds_toArray, List.set_cons_zero, List.set_cons_succ])
        refine' wpAnyH_take (i := 12) (oi := ?oiT12p) (v := ?vT12p) ?hiT12p (by kernel_rfl) (by kernel_rfl) (by kernel_rfl) ?hQT12p ?hyT12p hS ?restT12p
        case hiT12p =>
          simp only [List.getElem?_toArray, List.getElem?_cons_succ, List.getElem?_cons_zero]
          exact rfl
        case hQT12p => exact fun _ _ _ h => h
        case hyT12p =>
          refine Or.inl ⟨by rfl, ?_⟩
          intro w hSw
          (try dsimp only at hSw)
          go_simp
          (try with_reducible rfl)
        (try simp only [Act.put, List.setIfInBounds_toArray, List.set_cons_zero, List.set_cons_succ])
        refine wpAnyH_done (by kernel_rfl) ?_ _
        have hB4 := hS.2.2.2
        have y0 := hS.1
        have y1 := hS.2.1
        have y2 := hS.2.2.1
        clear hS x0 x1 x2 hB3 D
        go_wp2
        refine wp_region_held_drew (S := fun w' => w'.cell? ⟨b0, k, none⟩ = some (.int .i64 (q : Int)) ∧ w'.cell? ⟨b1, k, none⟩ = some (.int .i64 (z : Int)) ∧ w'.cell? ⟨b2, k, none⟩ = some (.string ⟨wd.toArray⟩) ∧ Below w2.heap.size w2 w') (by kernel_rfl) ?_ (fun hS => ?_)
        · (try dsimp only)
          (repeat' apply And.intro) <;> first | go_cell | exact hB4.drew
        refine' wpAnyH_take (i := 0) (oi := ?oiT0q) (v := ?vT0q) ?hiT0q (by kernel_rfl) (by kernel_rfl) (by kernel_rfl) ?hQT0q ?hyT0q hS ?restT0q
        case hiT0q =>
          simp only [List.getElem?_toArray, List.getElem?_cons_succ, List.getElem?_cons_zero]
          exact rfl
        case hQT0q => exact fun _ _ _ h => h
        case hyT0q =>
          refine Or.inl ⟨by rfl, ?_⟩
          intro w hSw
          (try dsimp only at hSw)
          go_simp
          (try with_reducible rfl)
        (try simp only [Act.put, List.setIfInBounds_toArray, List.set_cons_zero, List.set_cons_succ])
        refine' wpAnyH_take (i := 1) (oi := ?oiT1q) (v := ?vT1q) ?hiT1q (by kernel_rfl) (by kernel_rfl) (by kernel_rfl) ?hQT1q ?hyT1q hS ?restT1q
        case hiT1q =>
          simp only [List.getElem?_toArray, List.getElem?_cons_succ, List.getElem?_cons_zero]
          exact rfl
        case hQT1q => exact fun _ _ _ h => h
        case hyT1q =>
          refine Or.inl ⟨by rfl, ?_⟩
          intro w hSw
          (try dsimp only at hSw)
          go_simp
          (try with_reducible rfl)
        (try simp only [Act.put, List.setIfInBounds_toArray, List.set_cons_zero, List.set_cons_succ])
        refine' wpAnyH_take (i := 2) (oi := ?oiT2q) (v := ?vT2q) ?hiT2q (by kernel_rfl) (by kernel_rfl) (by kernel_rfl) ?hQT2q ?hyT2q hS ?restT2q
        case hiT2q =>
          simp only [List.getElem?_toArray, List.getElem?_cons_succ, List.getElem?_cons_zero]
          exact rfl
        case hQT2q => exact fun _ _ _ h => h
        case hyT2q =>
          refine Or.inl ⟨by rfl, ?_⟩
          intro w hSw
          (try dsimp only at hSw)
          go_simp
          (try with_reducible rfl)
        (try simp only [Act.put, List.setIfInBounds_toArray, List.set_cons_zero, List.set_cons_succ])
        refine' wpAnyH_take (i := 3) (oi := ?oiT3q) (v := ?vT3q) ?hiT3q (by kernel_rfl) (by kernel_rfl) (by kernel_rfl) ?hQT3q ?hyT3q hS ?restT3q
        case hiT3q =>
          simp only [List.getElem?_toArray, List.getElem?_cons_succ, List.getElem?_cons_zero]
          exact rfl
        case hQT3q => exact fun _ _ _ h => h
        case hyT3q =>
          refine Or.inl ⟨by rfl, ?_⟩
          intro w hSw
          (try dsimp only at hSw)
          go_simp
          (try with_reducible rfl)
        (try simp only [Act.put, List.setIfInBounds_toArray, List.set_cons_zero, List.set_cons_succ])
        refine' wpAnyH_take (i := 4) (oi := ?oiT4q) (v := ?vT4q) ?hiT4q (by kernel_rfl) (by kernel_rfl) (by kernel_rfl) ?hQT4q ?hyT4q hS ?restT4q
        case hiT4q =>
          simp only [List.getElem?_toArray, List.getElem?_cons_succ, List.getElem?_cons_zero]
          exact rfl
        case hQT4q => exact fun _ _ _ h => h
        case hyT4q =>
          refine Or.inl ⟨by rfl, ?_⟩
          intro w hSw
          (try dsimp only at hSw)
          go_simp
          (try with_reducible rfl)
        (try simp only [Act.put, List.setIfInBounds_toArray, List.set_cons_zero, List.set_cons_succ])
        refine' wpAnyH_take (i := 5) (oi := ?oiT5q) (v := ?vT5q) ?hiT5q (by kernel_rfl) (by kernel_rfl) (by kernel_rfl) ?hQT5q ?hyT5q hS ?restT5q
        case hiT5q =>
          simp only [List.getElem?_toArray, List.getElem?_cons_succ, List.getElem?_cons_zero]
          exact rfl
        case hQT5q => exact fun _ _ _ h => h
        case hyT5q =>
          refine Or.inl ⟨by rfl, ?_⟩
          intro w hSw
          (try dsimp only at hSw)
          go_simp
          (try with_reducible rfl)
        (try simp only [Act.put, List.setIfInBounds_toArray, List.set_cons_zero, List.set_cons_succ])
        refine' wpAnyH_take (i := 6) (oi := ?oiT6q) (v := ?vT6q) ?hiT6q (by kernel_rfl) (by kernel_rfl) (by kernel_rfl) ?hQT6q ?hyT6q hS ?restT6q
        case hiT6q =>
          simp only [List.getElem?_toArray, List.getElem?_cons_succ, List.getElem?_cons_zero]
          exact rfl
        case hQT6q => exact fun _ _ _ h => h
        case hyT6q =>
          refine Or.inl ⟨by rfl, ?_⟩
          intro w hSw
          (try dsimp only at hSw)
          go_simp
          (try with_reducible rfl)
        (try simp only [Act.put, List.setIfInBounds_toArray, List.set_cons_zero, List.set_cons_succ])
        refine' wpAnyH_take (i := 7) (oi := ?oiT7q) (v := ?vT7q) ?hiT7q (by kernel_rfl) (by kernel_rfl) (by kernel_rfl) ?hQT7q ?hyT7q hS ?restT7q
        case hiT7q =>
          simp only [List.getElem?_toArray, List.getElem?_cons_succ, List.getElem?_cons_zero]
          exact rfl
        case hQT7q => exact fun _ _ _ h => h
        case hyT7q =>
          refine Or.inl ⟨by rfl, ?_⟩
          intro w hSw
          (try dsimp only at hSw)
          go_simp
          (try with_reducible rfl)
        (try simp only [Act.put, List.setIfInBounds_toArray, List.set_cons_zero, List.set_cons_succ])
        refine' wpAnyH_take (i := 8) (oi := ?oiT8q) (v := ?vT8q) ?hiT8q (by kernel_rfl) (by kernel_rfl) (by kernel_rfl) ?hQT8q ?hyT8q hS ?restT8q
        case hiT8q =>
          simp only [List.getElem?_toArray, List.getElem?_cons_succ, List.getElem?_cons_zero]
          exact rfl
        case hQT8q => exact fun _ _ _ h => h
        case hyT8q =>
          refine Or.inl ⟨by rfl, ?_⟩
          intro w hSw
          (try dsimp only at hSw)
          go_simp
          (try with_reducible rfl)
        (try simp only [Act.put, List.setIfInBounds_toArray, List.set_cons_zero, List.set_cons_succ])
        refine' wpAnyH_take (i := 9) (oi := ?oiT9q) (v := ?vT9q) ?hiT9q (by kernel_rfl) (by kernel_rfl) (by kernel_rfl) ?hQT9q ?hyT9q hS ?restT9q
        case hiT9q =>
          simp only [List.getElem?_toArray, List.getElem?_cons_succ, List.getElem?_cons_zero]
          exact rfl
        case hQT9q => exact fun _ _ _ h => h
        case hyT9q =>
          refine Or.inl ⟨by rfl, ?_⟩
          intro w hSw
          (try dsimp only at hSw)
          go_simp
          (try with_reducible rfl)
        (try simp only [Act.put, List.setIfInBounds_toArray, List.set_cons_zero, List.set_cons_succ])
        refine' wpAnyH_take (i := 10) (oi := ?oiT10q) (v := ?vT10q) ?hiT10q (by kernel_rfl) (by kernel_rfl) (by kernel_rfl) ?hQT10q ?hyT10q hS ?restT10q
        case hiT10q =>
          simp only [List.getElem?_toArray, List.getElem?_cons_succ, List.getElem?_cons_zero]
          exact rfl
        case hQT10q => exact fun _ _ _ h => h
        case hyT10q =>
          refine Or.inl ⟨by rfl, ?_⟩
          intro w hSw
          (try dsimp only at hSw)
          go_simp
          (try with_reducible rfl)
        (try simp only [Act.put, List.setIfInBounds_toArray, List.set_cons_zero, List.set_cons_succ])
        refine' wpAnyH_take (i := 11) (oi := ?oiT11q) (v := ?vT11q) ?hiT11q (by kernel_rfl) (by kernel_rfl) (by kernel_rfl) ?hQT11q ?hyT11q hS ?restT11q
        case hiT11q =>
          simp only [List.getElem?_toArray, List.getElem?_cons_succ, List.getElem?_cons_zero]
          exact rfl
        case hQT11q => exact fun _ _ _ h => h
        case hyT11q =>
          refine Or.inl ⟨by rfl, ?_⟩
          intro w hSw
          (try dsimp only at hSw)
          go_simp
          (try with_reducible rfl)
        (try simp only [Act.put, List.setIfInBounds_toArray, List.set_cons_zero, List.set_cons_succ])
        refine wpAnyH_done (by kernel_rfl) ?_ _
        have hB5 := hS.2.2.2
        clear hS y0 y1 y2 hB4
        go_wp2
        go_roundw
        case rel => exact ⟨k + 1, by omega, by go_num, by rw [ST.out, if_pos (by omega), bapp, bapp, List.append_assoc], by rw [SS.out]; simp, hB5⟩
        case measure => simp [intOf]; omega
      · obtain rfl : q = 0 := by omega
        go_wp2
        refine wp_region_held_drew (S := fun w' => w'.cell? ⟨b0, k, none⟩ = some (.int .i64 ((0 : Nat) : Int)) ∧ w'.cell? ⟨b1, k, none⟩ = some (.int .i64 (z : Int)) ∧ w'.cell? ⟨b2, k, none⟩ = some (.string ⟨wd.toArray⟩) ∧ Below w2.heap.size w2 w') (by kernel_rfl) ?_ (fun hS => ?_)
        · (try dsimp only)
          (repeat' apply And.intro) <;> first | go_cell | exact hB3.drew
        refine' wpAnyH_take (i := 0) (oi := ?oiT0r) (v := ?vT0r) ?hiT0r (by kernel_rfl) (by kernel_rfl) (by kernel_rfl) ?hQT0r ?hyT0r hS ?restT0r
        case hiT0r =>
          simp only [List.getElem?_toArray, List.getElem?_cons_succ, List.getElem?_cons_zero]
          exact rfl
        case hQT0r => exact fun _ _ _ h => h
        case hyT0r =>
          refine Or.inl ⟨by rfl, ?_⟩
          intro w hSw
          (try dsimp only at hSw)
          go_simp
          (try with_reducible rfl)
        (try simp only [Act.put, List.setIfInBounds_toArray, List.set_cons_zero, List.set_cons_succ])
        refine' wpAnyH_take (i := 1) (oi := ?oiT1r) (v := ?vT1r) ?hiT1r (by kernel_rfl) (by kernel_rfl) (by kernel_rfl) ?hQT1r ?hyT1r hS ?restT1r
        case hiT1r =>
          simp only [List.getElem?_toArray, List.getElem?_cons_succ, List.getElem?_cons_zero]
          exact rfl
        case hQT1r => exact fun _ _ _ h => h
        case hyT1r =>
          refine Or.inl ⟨by rfl, ?_⟩
          intro w hSw
          (try dsimp only at hSw)
          go_simp
          (try with_reducible rfl)
        (try simp only [Act.put, List.setIfInBounds_toArray, List.set_cons_zero, List.set_cons_succ])
        refine' wpAnyH_take (i := 2) (oi := ?oiT2r) (v := ?vT2r) ?hiT2r (by kernel_rfl) (by kernel_rfl) (by kernel_rfl) ?hQT2r ?hyT2r hS ?restT2r
        case hiT2r =>
          simp only [List.getElem?_toArray, List.getElem?_cons_succ, List.getElem?_cons_zero]
          exact rfl
        case hQT2r => exact fun _ _ _ h => h
        case hyT2r =>
          refine Or.inl ⟨by rfl, ?_⟩
          intro w hSw
          (try dsimp only at hSw)
          go_simp
          (try with_reducible rfl)
        (try simp only [Act.put, List.setIfInBounds_toArray, List.set_cons_zero, List.set_cons_succ])
        refine' wpAnyH_take (i := 3) (oi := ?oiT3r) (v := ?vT3r) ?hiT3r (by kernel_rfl) (by kernel_rfl) (by kernel_rfl) ?hQT3r ?hyT3r hS ?restT3r
        case hiT3r =>
          simp only [List.getElem?_toArray, List.getElem?_cons_succ, List.getElem?_cons_zero]
          exact rfl
        case hQT3r => exact fun _ _ _ h => h
        case hyT3r =>
          refine Or.inl ⟨by rfl, ?_⟩
          intro w hSw
          (try dsimp only at hSw)
          go_simp
          (try with_reducible rfl)
        (try simp only [Act.put, List.setIfInBounds_toArray, List.set_cons_zero, List.set_cons_succ])
        refine' wpAnyH_take (i := 4) (oi := ?oiT4r) (v := ?vT4r) ?hiT4r (by kernel_rfl) (by kernel_rfl) (by kernel_rfl) ?hQT4r ?hyT4r hS ?restT4r
        case hiT4r =>
          simp only [List.getElem?_toArray, List.getElem?_cons_succ, List.getElem?_cons_zero]
          exact rfl
        case hQT4r => exact fun _ _ _ h => h
        case hyT4r =>
          refine Or.inl ⟨by rfl, ?_⟩
          intro w hSw
          (try dsimp only at hSw)
          go_simp
          (try with_reducible rfl)
        (try simp only [Act.put, List.setIfInBounds_toArray, List.set_cons_zero, List.set_cons_succ])
        refine' wpAnyH_take (i := 5) (oi := ?oiT5r) (v := ?vT5r) ?hiT5r (by kernel_rfl) (by kernel_rfl) (by kernel_rfl) ?hQT5r ?hyT5r hS ?restT5r
        case hiT5r =>
          simp only [List.getElem?_toArray, List.getElem?_cons_succ, List.getElem?_cons_zero]
          exact rfl
        case hQT5r => exact fun _ _ _ h => h
        case hyT5r =>
          refine Or.inl ⟨by rfl, ?_⟩
          intro w hSw
          (try dsimp only at hSw)
          go_simp
          (try with_reducible rfl)
        (try simp only [Act.put, List.setIfInBounds_toArray, List.set_cons_zero, List.set_cons_succ])
        refine' wpAnyH_take (i := 6) (oi := ?oiT6r) (v := ?vT6r) ?hiT6r (by kernel_rfl) (by kernel_rfl) (by kernel_rfl) ?hQT6r ?hyT6r hS ?restT6r
        case hiT6r =>
          simp only [List.getElem?_toArray, List.getElem?_cons_succ, List.getElem?_cons_zero]
          exact rfl
        case hQT6r => exact fun _ _ _ h => h
        case hyT6r =>
          refine Or.inl ⟨by rfl, ?_⟩
          intro w hSw
          (try dsimp only at hSw)
          go_simp
          (try with_reducible rfl)
        (try simp only [Act.put, List.setIfInBounds_toArray, List.set_cons_zero, List.set_cons_succ])
        refine' wpAnyH_take (i := 7) (oi := ?oiT7r) (v := ?vT7r) ?hiT7r (by kernel_rfl) (by kernel_rfl) (by kernel_rfl) ?hQT7r ?hyT7r hS ?restT7r
        case hiT7r =>
          simp only [List.getElem?_toArray, List.getElem?_cons_succ, List.getElem?_cons_zero]
          exact rfl
        case hQT7r => exact fun _ _ _ h => h
        case hyT7r =>
          refine Or.inl ⟨by rfl, ?_⟩
          intro w hSw
          (try dsimp only at hSw)
          go_simp
          (try with_reducible rfl)
        (try simp only [Act.put, List.setIfInBounds_toArray, List.set_cons_zero, List.set_cons_succ])
        refine' wpAnyH_take (i := 8) (oi := ?oiT8r) (v := ?vT8r) ?hiT8r (by kernel_rfl) (by kernel_rfl) (by kernel_rfl) ?hQT8r ?hyT8r hS ?restT8r
        case hiT8r =>
          simp only [List.getElem?_toArray, List.getElem?_cons_succ, List.getElem?_cons_zero]
          exact rfl
        case hQT8r => exact fun _ _ _ h => h
        case hyT8r =>
          refine Or.inl ⟨by rfl, ?_⟩
          intro w hSw
          (try dsimp only at hSw)
          go_simp
          (try with_reducible rfl)
        (try simp only [Act.put, List.setIfInBounds_toArray, List.set_cons_zero, List.set_cons_succ])
        refine' wpAnyH_take (i := 9) (oi := ?oiT9r) (v := ?vT9r) ?hiT9r (by kernel_rfl) (by kernel_rfl) (by kernel_rfl) ?hQT9r ?hyT9r hS ?restT9r
        case hiT9r =>
          simp only [List.getElem?_toArray, List.getElem?_cons_succ, List.getElem?_cons_zero]
          exact rfl
        case hQT9r => exact fun _ _ _ h => h
        case hyT9r =>
          refine Or.inl ⟨by rfl, ?_⟩
          intro w hSw
          (try dsimp only at hSw)
          go_simp
          (try with_reducible rfl)
        (try simp only [Act.put, List.setIfInBounds_toArray, List.set_cons_zero, List.set_cons_succ])
        refine' wpAnyH_take (i := 10) (oi := ?oiT10r) (v := ?vT10r) ?hiT10r (by kernel_rfl) (by kernel_rfl) (by kernel_rfl) ?hQT10r ?hyT10r hS ?restT10r
        case hiT10r =>
          simp only [List.getElem?_toArray, List.getElem?_cons_succ, List.getElem?_cons_zero]
          exact rfl
        case hQT10r => exact fun _ _ _ h => h
        case hyT10r =>
          refine Or.inl ⟨by rfl, ?_⟩
          intro w hSw
          (try dsimp only at hSw)
          go_simp
          (try with_reducible rfl)
        (try simp only [Act.put, List.setIfInBounds_toArray, List.set_cons_zero, List.set_cons_succ])
        refine' wpAnyH_take (i := 11) (oi := ?oiT11r) (v := ?vT11r) ?hiT11r (by kernel_rfl) (by kernel_rfl) (by kernel_rfl) ?hQT11r ?hyT11r hS ?restT11r
        case hiT11r =>
          simp only [List.getElem?_toArray, List.getElem?_cons_succ, List.getElem?_cons_zero]
          exact rfl
        case hQT11r => exact fun _ _ _ h => h
        case hyT11r =>
          refine Or.inl ⟨by rfl, ?_⟩
          intro w hSw
          (try dsimp only at hSw)
          go_simp
          (try with_reducible rfl)
        (try simp only [Act.put, List.setIfInBounds_toArray, List.set_cons_zero, List.set_cons_succ])
        refine wpAnyH_done (by kernel_rfl) ?_ _
        have hB5 := hS.2.2.2
        have n0 : IntKind.i64.wrap (0 : Int) = 0 := rfl
        have n1 : IntKind.i64.wrap (S : Int) = (S : Int) := by rw [IntKind.wrap_i64]; omega
        clear hS x0 x1 x2 hB3
        go_wp2
        go_roundw
        case rel => exact ⟨k + 1, by omega, by go_num, by rw [ST.out, if_neg (by omega), List.append_nil], by rw [SS.out]; simp [n0, n1], hB5⟩
        case measure => simp [intOf]; omega
    · obtain rfl : k = 5 := by omega
      rw [show ([0, 1, 2, 3, 4] : List (Fin 5)).take 5 = [0, 1, 2, 3, 4] from rfl, HP.out]
      have hNl := HSl.out [0, 1, 2, 3, 4]
      generalize pS qf [0, 1, 2, 3, 4] = N at *
      have hNl2 : N ≤ 431568000000 := by simpa using hNl
      have PB := Lib.hid (parse_back N (by omega) wr (E2.out.below hB3))
      have TX := Lib.hid (fun W h => text_any N (by omega) W h)
      have Tr := Lib.hid (T2.out.below hB3)
      have hBr := hB.trans (hB3.mono hB.size)
      rw [textR_tx] at PB TX
      clear hNl HSl HTl HQ HP K HT HE U A0 A1 A2 T2 E2 hB3 hB b3 b4 hh' hm' hs' hms' hd' hk hlt
      by_cases h0 : N = 0
      · rw [if_pos h0] at PB TX
        have e : tx [0, 1, 2, 3, 4] N = [] := by rw [h0]; rfl
        rw [e]
        clear e h0
        go_wp2_with fail
        refine PB.out.mono ?_
        rintro e w3 ⟨rfl, hb3⟩
        have hB6 := hBr.trans (hb3.mono hBr.size)
        have T3 := Lib.hid (Tr.out.below hb3)
        clear hb3
        go_wp2_with fail
        refine (TX.out _ T3.out).mono ?_
        rintro e w4 ⟨rfl, hb4⟩
        have hB7 := hB6.trans (hb4.mono hB6.size)
        clear hb4
        go_wp2
        go_ret
        exact ⟨rfl, hB7⟩
      · rw [if_neg h0] at PB TX
        obtain ⟨c, t, e, _⟩ := tx_pos N (by omega)
        have hne : (tx [0, 1, 2, 3, 4] N).isEmpty = false := by rw [e]; rfl
        clear e h0
        generalize tx [0, 1, 2, 3, 4] N = l at *
        go_wp2_with fail
        refine PB.out.mono ?_
        rintro e w3 ⟨rfl, hb3⟩
        have hB6 := hBr.trans (hb3.mono hBr.size)
        have T3 := Lib.hid (Tr.out.below hb3)
        clear hb3
        go_wp2_with fail
        refine (TX.out _ T3.out).mono ?_
        rintro e w4 ⟨rfl, hb4⟩
        have hB7 := hB6.trans (hb4.mono hB6.size)
        clear hb4
        go_wp2
        go_ret
        exact ⟨rfl, hB7⟩
theorem parts_law' (d h m s ms : Int) (hd : 0 ≤ d ∧ d ≤ 255) (hh : 0 ≤ h ∧ h ≤ 255) (hm : 0 ≤ m ∧ m ≤ 255) (hs : 0 ≤ s ∧ s ≤ 255) (hms : 0 ≤ ms ∧ ms ≤ 65535) (w : World) (ht : Tab w) (he : ErrOk w) :
    Calls Tryd.prog 7 #[.int .u8 d, .int .u8 h, .int .u8 m, .int .u8 s, .int .u16 ms] w fun e w' => e = .returned (.bool true) ∧ Below w.heap.size w w' := by
  obtain ⟨d, rfl⟩ := Int.eq_ofNat_of_zero_le hd.1
  obtain ⟨h, rfl⟩ := Int.eq_ofNat_of_zero_le hh.1
  obtain ⟨m, rfl⟩ := Int.eq_ofNat_of_zero_le hm.1
  obtain ⟨s, rfl⟩ := Int.eq_ofNat_of_zero_le hs.1
  obtain ⟨ms, rfl⟩ := Int.eq_ofNat_of_zero_le hms.1
  exact parts_law d h m s ms (by omega) (by omega) (by omega) (by omega) (by omega) w ht he
end Go.Proofs.YtmiahbaadlddjaaDoor
