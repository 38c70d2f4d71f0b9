/- The reference's numbers of 128 bits: raw, Add, minus, Neg, Cmp. -/
import Derived.Test.YtgldieboflmnhaaGreatDoorTextL
import Derived.Outline
import Derived.Deep.DeepCutAuto
import Derived.Deep.QuietTactic
import Derived.BigQuiet
import Derived.KernelRfl
import Derived.WalkSpells
import Derived.WalkLawsBesides
import Derived.Laws.StructEq
import Derived.LoopTactic
import Derived.Laws.Externs
import Derived.Test.YtgldieboflmnhaaGreatDoorAt
import Derived.Lib.Hide
import Derived.Lib.ItoaNum
import Derived.Laws.IdiomStrings
namespace Go.Proofs.YtgldieboflmnhaaGreatDoor
open Go Go.Proofs Go.RowKit
set_option maxRecDepth 100000
structure InI (hi lo : Int) : Prop where
  h1 : -9223372036854775808 ≤ hi
  h2 : hi ≤ 9223372036854775807
  l1 : 0 ≤ lo
  l2 : lo < 18446744073709551616
def val (hi lo : Int) : Int := hi * 18446744073709551616 + lo

theorem xor_u64 (b : Int) (h : 0 ≤ b ∧ b < 18446744073709551616) : bits BinOp.xor IntKind.u64 IntKind.u64.max b = 18446744073709551615 - b := by
  obtain ⟨b, rfl⟩ := Int.eq_ofNat_of_zero_le h.1
  have hb : b < 18446744073709551616 := by omega
  have e : IntKind.u64.max = ((18446744073709551615 : Nat) : Int) := by simp [IntKind.max, IntKind.signed, IntKind.bits]
  rw [e, u64_xor_nat _ _ (by omega) hb]
  have k : (18446744073709551615 : Nat) ^^^ b = 18446744073709551615 - b := by
    have h1 := Nat.xor_comm (2 ^ 64 - 1) b
    have h2 : (BitVec.allOnes 64 ^^^ BitVec.ofNat 64 b).toNat = (~~~ (BitVec.ofNat 64 b)).toNat := by rw [BitVec.allOnes_xor]
    rw [BitVec.toNat_xor, BitVec.toNat_not, BitVec.toNat_allOnes, BitVec.toNat_ofNat, Nat.mod_eq_of_lt (by omega)] at h2
    simpa using h2
  rw [k]; omega
theorem ofInt_64 (a : Int) : ((BitVec.ofInt 64 a).toNat : Int) = a % 18446744073709551616 := by
  rw [BitVec.toNat_ofInt]
  simp
  omega
theorem xor_i64 (a : Int) (h : -9223372036854775808 ≤ a ∧ a ≤ 9223372036854775807) : bits BinOp.xor IntKind.i64 (-1) a = -1 - a := by
  show IntKind.i64.wrap ((BitVec.ofInt 64 (-1) ^^^ BitVec.ofInt 64 a).toNat : Int) = _
  rw [show BitVec.ofInt 64 (-1) = BitVec.allOnes 64 from by decide, BitVec.allOnes_xor, BitVec.toNat_not]
  have e := ofInt_64 a
  have hl := (BitVec.ofInt 64 a).isLt
  rw [IntKind.wrap_i64]
  omega
theorem ref_raw (h1 l1 h2 l2 h l k : Int) (i1 : InI h1 l1) (i2 : InI h2 l2) (i : InI h l) (v : val h l = val h1 l1 + val h2 l2 + k * 340282366920938463463374607431768211456) (W : World) :
    Calls Tryz.prog 83 #[.agg #[.int .i64 h1, .int .u64 l1], .agg #[.int .i64 h2, .int .u64 l2]] W fun e w' => e = .returned (.agg #[.int .i64 h, .int .u64 l]) ∧ Below W.heap.size W w' := by
  obtain ⟨a1, a2, a3, a4⟩ := i1
  obtain ⟨b1, b2, b3, b4⟩ := i2
  obtain ⟨c1, c2, c3, c4⟩ := i
  unfold val at v
  have e1 : IntKind.u64.wrap (l1 + l2) = l := by rw [IntKind.wrap_u64]; omega
  by_cases hc : l < l1
  · have e2 : wrap64 (wrap64 (h1 + h2) + 1) = h := by unfold wrap64; omega
    clear v
    go_enter Tryz.func83, Tryz.ntmps83
    go_wp2_with fail
    go_returns
    exact ⟨rfl, by go_grown⟩
  · have e2 : IntKind.i64.wrap (h1 + h2) = h := by rw [IntKind.wrap_i64]; omega
    clear v
    go_enter Tryz.func83, Tryz.ntmps83
    go_wp2_with fail
    go_returns
    exact ⟨rfl, by go_grown⟩
end Go.Proofs.YtgldieboflmnhaaGreatDoor
/- The reference's numbers of 128 bits: Of, minus, Neg, Add. -/
namespace Go.Proofs.YtgldieboflmnhaaGreatDoor
open Go Go.Proofs Go.RowKit
set_option maxRecDepth 100000

theorem bcell {W w1 : World} (hb : Below W.heap.size W w1) : (∀ b o, b < W.heap.size → w1.cell? ⟨b, o, none⟩ = W.cell? ⟨b, o, none⟩) ∧ (∀ b o, b < W.heap.size → w1.frozen? ⟨b, o, none⟩ = W.frozen? ⟨b, o, none⟩) :=
  ⟨fun b o h => hb.cell (p := ⟨b, o, none⟩) h, fun b o h => hb.frozen (p := ⟨b, o, none⟩) h⟩
theorem cell_set {w : World} {p : Addr} {v : Value} (h : (w.cell? p).isSome = true) : (w.setCell p v).cell? p = some v := by
  obtain ⟨u, hu⟩ := Option.isSome_iff_exists.1 h
  exact World.cell?_setCell_same _ _ _ hu
attribute [local go_sem] cell_set
theorem ref_of (n : Int) (hn : I64 n) (W : World) :
    Calls Tryz.prog 49 #[.int .i64 n] W fun e w' => e = .returned (.agg #[.int .i64 (n / 9223372036854775808), .int .u64 (n % 18446744073709551616)]) ∧ Below W.heap.size W w' := by
  unfold I64 at hn
  have e1 : IntKind.u64.wrap n = n % 18446744073709551616 := by rw [IntKind.wrap_u64]
  by_cases hc : n < 0
  · have e2 : n / 9223372036854775808 = -1 := by omega
    rw [e2]
    have E := Lib.hid e1
    clear e2
    go_enter Tryz.func49, Tryz.ntmps49
    go_wp2_with fail
    go_returns
    exact ⟨rfl, by go_grown⟩
  · have e2 : n / 9223372036854775808 = 0 := by omega
    rw [e2]
    clear e2
    go_enter Tryz.func49, Tryz.ntmps49
    go_wp2_with fail
    go_returns
    exact ⟨rfl, by go_grown⟩
theorem ref_minus (h1 l1 h l k : Int) (i1 : InI h1 l1) (i : InI h l) (v : val h l = - val h1 l1 + k * 340282366920938463463374607431768211456) (W : World) :
    Calls Tryz.prog 63 #[.agg #[.int .i64 h1, .int .u64 l1]] W fun e w' => e = .returned (.agg #[.int .i64 h, .int .u64 l]) ∧ Below W.heap.size W w' := by
  have j : InI (-1 - h1) (18446744073709551615 - l1) := by obtain ⟨a, b, c, d⟩ := i1; exact ⟨by omega, by omega, by omega, by omega⟩
  have R := Lib.hid (fun W => ref_raw (-1 - h1) (18446744073709551615 - l1) 0 1 h l k j ⟨by omega, by omega, by omega, by omega⟩ i (by unfold val at *; omega) W)
  have x1 := xor_i64 h1 ⟨i1.h1, i1.h2⟩
  have x2 := xor_u64 l1 ⟨i1.l1, by have := i1.l2; omega⟩
  clear v i j
  go_enter Tryz.func63, Tryz.ntmps63
  go_wp2_with fail
  refine (R.out _).mono ?_
  rintro e w1 ⟨rfl, hb⟩
  have B := below_then (below_new (below_cells _) _) hb
  obtain ⟨hc, hf⟩ := bcell hb
  have lt := hb.size
  go_wp2
  refine bodyPost_ret (by simp [results, Tryz.results63, go_sem, hc]; try rfl) rfl ?_
  exact ⟨rfl, by go_grown⟩
end Go.Proofs.YtgldieboflmnhaaGreatDoor
/- Plain lists: numbers of base 2^16, divided by ten. No Go in sight. -/
namespace Go.Proofs.YtgldieboflmnhaaGreatDoor
open Go Go.Proofs Go.RowKit
theorem len_pow : ∀ k r : Nat, 1 ≤ k → r < 10 ^ k → (Lib.decDigits r).length ≤ k := by
  have h : ∀ k r : Nat, 1 ≤ k → r < 10 ^ k → (Lib.decDigits r).length ≤ k := by
    intro k
    induction k with
    | zero => intro r h _; omega
    | succ k ih =>
      intro r _ hr
      rw [Lib.decDigits]
      split
      · simp
      · rename_i h
        have hp : 10 ^ (k + 1) = 10 ^ k * 10 := Nat.pow_succ 10 k
        have hk : 1 ≤ k := by
          rcases Nat.eq_zero_or_pos k with h0 | h0
          · subst h0; simp at hr; omega
          · exact h0
        have := ih (r / 10) hk (by rw [hp] at hr; omega)
        simp; omega
  exact h
theorem len19 (r : Nat) (hr : r < 10000000000000000000) : (Lib.decDigits r).length ≤ 19 := len_pow 19 r (by omega) (by simpa using hr)
theorem len20 (r : Nat) (hr : r < 18446744073709551616) : (Lib.decDigits r).length ≤ 20 := len_pow 20 r (by omega) (by simpa using (show r < 100000000000000000000 by omega))
theorem bapp0 (b : List UInt8) : (⟨#[]⟩ : ByteArray) ++ ⟨b.toArray⟩ = ⟨b.toArray⟩ := bapp [] b
theorem bapp1 (c : UInt8) (b : List UInt8) : (⟨#[c]⟩ : ByteArray) ++ ⟨b.toArray⟩ = ⟨(c :: b).toArray⟩ := bapp [c] b
def valL (l : List Nat) : Nat := l.foldl (fun a d => a * 65536 + d) 0
theorem valL_snoc (l : List Nat) (d : Nat) : valL (l ++ [d]) = valL l * 65536 + d := by simp [valL]
theorem take_snocN (l : List Nat) (k : Nat) (h : k < l.length) : l.take (k + 1) = l.take k ++ [l[k]] := by
  rw [List.take_succ_eq_append_getElem h]
/-- one round of the inner loop -/
structure DG (L Q : List Nat) (r i : Nat) : Prop where
  len : Q.length = i
  eqn : valL (L.take i) = valL Q * 10 + r
  lt : r < 10
  all : ∀ q ∈ Q, q < 65536
theorem DG.step {L Q : List Nat} {r i l : Nat} (h : DG L Q r i) (hi : i < L.length) (hl : L[i] = l) (hb : l < 65536) :
    DG L (Q ++ [(r * 65536 + l) / 10]) ((r * 65536 + l) % 10) (i + 1) := by
  obtain ⟨a, b, c, d⟩ := h
  refine ⟨by simp [a], ?_, Nat.mod_lt _ (by omega), ?_⟩
  · rw [take_snocN L i hi, hl, valL_snoc, valL_snoc, b]
    omega
  · intro q hq
    rw [List.mem_append] at hq
    rcases hq with hq | hq
    · exact d q hq
    · simp at hq; subst hq; omega
theorem DG.pos {Q : List Nat} {q : Nat} : decide (0 < valL (Q ++ [q])) = (decide (0 < valL Q) || decide (0 < q)) := by
  rw [valL_snoc, Bool.eq_iff_iff]; simp; omega
/-- what the outer loop keeps -/
def DO (N : Nat) (L : List Nat) (s : List UInt8) (m : Bool) : Prop :=
  L.length = 8 ∧ (∀ d ∈ L, d < 65536) ∧ (m = true → Lib.decDigits N = Lib.decDigits (valL L) ++ s) ∧ (m = false → Lib.decDigits N = s)
theorem decDigits_ten (n : Nat) (h : 0 < n / 10) : Lib.decDigits n = Lib.decDigits (n / 10) ++ [UInt8.ofNat (48 + n % 10)] := by
  rw [Lib.decDigits, dif_neg (by omega)]
end Go.Proofs.YtgldieboflmnhaaGreatDoor
/- The reference's digits. -/
namespace Go.Proofs.YtgldieboflmnhaaGreatDoor
open Go Go.Proofs Go.RowKit
set_option maxRecDepth 100000
attribute [local go_sem] cell_set
theorem info_u64 : (Tryz.prog.info? 97).map (fun i => (i.zero, i.size, i.bytes)) = some (some (.int .u64 0), 1, 8) := by kernel_rfl
def cellsU (l : List Nat) : List Value := l.map fun (n : Nat) => Value.int .u64 (n : Int)
theorem cellsU_len (l : List Nat) : (cellsU l).length = l.length := by simp [cellsU]
theorem cellsU_get {l : List Nat} {j n : Nat} (h : l[j]? = some n) : (cellsU l)[j]? = some (.int .u64 (n : Int)) := by simp [cellsU, h]
theorem At.pre {w : World} {b : Nat} {l l' : List Value} (h : At w b l) (k : Nat) (he : l.take k = l') : At w b l' := by
  subst he
  refine ⟨h.lt, fun j v hv => h.cell j v ?_, fun j v hv => h.free j v ?_⟩
  all_goals
    rw [List.getElem?_take] at hv
    split at hv
    · exact hv
    · cases hv
theorem At.of_own {w : World} {base e n : Nat} {v : Value} {xs : List Value} (h : w.ownsRow base e 1 v n xs) (hn : 0 < n) : ∃ g cap, v = .slice (some ⟨g, 0, none⟩) n cap ∧ base ≤ g ∧ n ≤ cap ∧ At w g xs := by
  obtain ⟨_, h⟩ := h
  rcases h with ⟨_, h⟩ | ⟨g, cap, cur, hv, hb, hg, hc, _, _, ht⟩
  · omega
  · exact ⟨g, cap, hv, hb, hc, (At.of_block hg).pre _ (by rw [ht])⟩
/-- what a round of the outer loop finds -/
structure DOW (N : Nat) (W : World) (B : Nat) (L : List Nat) (s : List UInt8) (m : Bool) (wr : World) : Prop where
  d : DO N L s m
  at' : At wr B (cellsU L)
  bel : Below W.heap.size W wr
  ge : W.heap.size ≤ B
/-- what a round of the inner loop finds -/
structure DGW (W : World) (g : Nat) (L Q : List Nat) (r i : Nat) (wq : World) : Prop where
  d : DG L Q r i
  at' : At wq g (cellsU (Q ++ L.drop i))
  bel : Below W.heap.size W wq
theorem DGW.get {W : World} {g : Nat} {L Q : List Nat} {r i l : Nat} {wq : World} (h : DGW W g L Q r i wq) (hil : i < L.length) (hl : L[i] = l) : (cellsU (Q ++ L.drop i))[i]? = some (.int .u64 (l : Int)) := by
  apply cellsU_get
  have := h.d.len
  rw [List.getElem?_append_right (by omega), List.getElem?_drop]
  subst hl
  rw [List.getElem?_eq_getElem (by omega)]
  congr 2
  omega
theorem DGW.cell {W : World} {g : Nat} {L Q : List Nat} {r i l : Nat} {wq : World} (h : DGW W g L Q r i wq) (hil : i < L.length) (hl : L[i] = l) : wq.cell? ⟨g, i, none⟩ = some (.int .u64 (l : Int)) := h.at'.cell _ _ (h.get hil hl)
theorem DGW.free {W : World} {g : Nat} {L Q : List Nat} {r i l : Nat} {wq : World} (h : DGW W g L Q r i wq) (hil : i < L.length) (hl : L[i] = l) : wq.frozen? ⟨g, i, none⟩ = false := h.at'.free _ _ (h.get hil hl)
theorem or_low (r l : Nat) (hr : r < 10) (hl : l < 65536) : bits BinOp.or IntKind.u64 (IntKind.u64.wrap ((r : Int) * 65536)) (l : Int) = ((r * 65536 + l : Nat) : Int) := by
  rw [show IntKind.u64.wrap ((r : Int) * 65536) = ((r * 65536 : Nat) : Int) by rw [IntKind.wrap_u64]; omega, u64_or_nat _ _ (by omega) (by omega)]
  have e : r * 65536 = r <<< 16 := by rw [Nat.shiftLeft_eq]
  rw [e, ← Nat.shiftLeft_add_eq_or_of_lt (by omega)]
theorem DG.round {L Q : List Nat} {r i l : Nat} (h : DG L Q r i) (hi : i < L.length) (hl : L[i] = l) (hb : l < 65536) : ∃ v q t : Nat,
    bits BinOp.or IntKind.u64 (IntKind.u64.wrap ((r : Int) * 65536)) (l : Int) = (v : Int) ∧ (v : Int) / 10 = (q : Int) ∧ (v : Int) % 10 = (t : Int) ∧ IntKind.u64.wrap (q : Int) = (q : Int) ∧ DG L (Q ++ [q]) t (i + 1) :=
  ⟨r * 65536 + l, (r * 65536 + l) / 10, (r * 65536 + l) % 10, or_low r l h.lt hb, by omega, by omega, by rw [IntKind.wrap_u64]; have := h.lt; omega, h.step hi hl hb⟩
theorem DGW.next {W : World} {g : Nat} {L Q : List Nat} {r i t q : Nat} {wr : World} (h : DGW W g L Q r i wr) (hg : W.heap.size ≤ g) (hi : i < L.length) (st : DG L (Q ++ [q]) t (i + 1)) : DGW W g L (Q ++ [q]) t (i + 1) (wr.setCell ⟨g, i, none⟩ (.int .u64 (q : Int))) := by
  refine ⟨st, ?_, h.bel.setCell hg _⟩
  have e : (cellsU (Q ++ L.drop i)).set i (.int .u64 (q : Int)) = cellsU (Q ++ [q] ++ L.drop (i + 1)) := by
    have hl := h.d.len
    unfold cellsU
    rw [List.drop_eq_getElem_cons hi, List.map_append, List.map_cons, List.set_append_right _ _ (by simp [hl]), List.length_map, hl, Nat.sub_self, List.set_cons_zero, List.map_append, List.map_append, List.append_assoc]
    rfl
  rw [← e]
  exact h.at'.set i _
theorem conv_one (ch : UInt8) (W : World) : (convert 56 9 (.slice (some ⟨W.heap.size, 0, none⟩) 1 1)).run Tryz.prog (W.alloc (.cells #[.int .u8 (ch.toNat : Int)] 5)) = .ok (.string ⟨#[ch]⟩) (W.alloc (.cells #[.int .u8 (ch.toNat : Int)] 5)) := by
  refine run_convert_bytes_back _ 56 9 5 ⟨W.heap.size, 0, none⟩ 1 [ch] Tryz.underlying56 Tryz.underlying5 Tryz.underlying9 ?_
  intro j hj
  obtain rfl : j = 0 := by simp at hj; exact hj
  rw [Addr.add_lit]
  simp
theorem DO.slen {N : Nat} {L : List Nat} {s : List UInt8} {m : Bool} (h : DO N L s m) (hn : N < 340282366920938463463374607431768211456) (hm : m = true) : s.length ≤ 60 := by
  have h1 := h.2.2.1 hm
  have h2 := len_pow 39 N (by omega) (by have : (10 : Nat) ^ 39 = 1000000000000000000000000000000000000000 := by decide
                                         omega)
  rw [h1, List.length_append] at h2
  omega
theorem DO.next {N : Nat} {L Q : List Nat} {s : List UInt8} {r : Nat} {m : Bool} {ch : UInt8} (h : DO N L s true) (g : DG L Q r 8) (hm : decide (0 < valL Q) = m) (hc : UInt8.ofNat (48 + r) = ch) : DO N Q (ch :: s) m := by
  obtain ⟨l8, _, h1, _⟩ := h
  obtain ⟨q8, ge, r10, qa⟩ := g
  rw [List.take_of_length_le (by omega)] at ge
  have h1 := h1 rfl
  refine ⟨q8, qa, fun e => ?_, fun e => ?_⟩
  · subst e
    have hq : 0 < valL Q := by simpa using hm
    rw [h1, ge, decDigits_ten (valL Q * 10 + r) (by omega), show (valL Q * 10 + r) / 10 = valL Q by omega, show (valL Q * 10 + r) % 10 = r by omega, hc, List.append_assoc]
    rfl
  · subst e
    have hq : valL Q = 0 := by simpa using hm
    rw [h1, ge, hq, Lib.decDigits, dif_pos (by omega), show 0 * 10 + r = r by omega, hc]
    rfl
theorem DGW.done {W : World} {g : Nat} {L Q : List Nat} {r : Nat} {wr : World} (h : DGW W g L Q r 8 wr) (hl : L.length = 8) (o : Obj) : At (wr.alloc o) g (cellsU Q) := by
  have h1 := h.at'
  rw [List.drop_of_length_le (by omega), List.append_nil] at h1
  exact h1.alloc o
theorem mask16 (a : Nat) (h : a < 18446744073709551616) : bits BinOp.and IntKind.u64 (a : Int) 65535 = ((a % 65536 : Nat) : Int) := by
  have h1 := u64_and_nat a 65535 h (by omega)
  rw [show a &&& 65535 = a % 65536 from Nat.and_two_pow_sub_one_eq_mod a 16] at h1
  exact h1
theorem dm (x k m : Nat) (hk : m = k * 65536) : x / m * 65536 + x / k % 65536 = x / k := by
  rw [hk, ← Nat.div_div_eq_div_mul]; exact Nat.div_add_mod' _ _
theorem fold4 (x y3 y2 y1 y r2 r1 r0 : Nat) (h1 : y3 * 65536 + r2 = y2) (h2 : y2 * 65536 + r1 = y1) (h3 : y1 * 65536 + r0 = y) :
    (((x * 65536 + y3) * 65536 + r2) * 65536 + r1) * 65536 + r0 = x * 18446744073709551616 + y := by
  subst h1 h2 h3
  omega
theorem DO.start (x y N : Nat) (hx : x < 18446744073709551616) (hy : y < 18446744073709551616) (hn : x * 18446744073709551616 + y = N) :
    DO N [x / 281474976710656, x / 4294967296 % 65536, x / 65536 % 65536, x % 65536, y / 281474976710656, y / 4294967296 % 65536, y / 65536 % 65536, y % 65536] [] true := by
  refine ⟨rfl, ?_, fun _ => ?_, fun h => by cases h⟩
  · intro d hd
    simp only [List.mem_cons, List.not_mem_nil, or_false] at hd
    omega
  · have e : valL [x / 281474976710656, x / 4294967296 % 65536, x / 65536 % 65536, x % 65536, y / 281474976710656, y / 4294967296 % 65536, y / 65536 % 65536, y % 65536] = N := by
      have h1 := dm x 4294967296 281474976710656 rfl
      have h2 := dm x 65536 4294967296 rfl
      have h3 := Nat.div_add_mod' x 65536
      have k1 := dm y 4294967296 281474976710656 rfl
      have k2 := dm y 65536 4294967296 rfl
      have k3 := Nat.div_add_mod' y 65536
      simp only [valL, List.foldl_cons, List.foldl_nil, Nat.zero_mul, Nat.zero_add, h1, h2, h3]
      exact (fold4 x (y / 281474976710656) (y / 4294967296) (y / 65536) y (y / 4294967296 % 65536) (y / 65536 % 65536) (y % 65536) k1 k2 k3).trans hn
    rw [List.append_nil, e]
def strLen : Value → Nat
  | .string s => s.size
  | _ => 0
set_option maxHeartbeats 2000000 in
theorem digits_any (x y : Nat) (hx : x < 18446744073709551616) (hy : y < 18446744073709551616) (W : World) :
    Calls Tryz.prog 64 #[.int .u64 x, .int .u64 y] W fun e w' => e = .returned (.string ⟨(Lib.decDigits (x * 18446744073709551616 + y)).toArray⟩) ∧ Below W.heap.size W w' := by
  obtain ⟨i0, hi, hz0, hz1, hz2⟩ := info_parts info_u64
  have HI := Lib.hid hi
  have HZ := Lib.hid hz0
  have HZ1 := Lib.hid hz1
  have HZ2 := Lib.hid hz2
  clear hi hz0 hz1 hz2
  generalize hN : x * 18446744073709551616 + y = N
  have HN := Lib.hid hN
  have hnb : N < 340282366920938463463374607431768211456 := by omega
  clear hN
  have mx0 : bits BinOp.and IntKind.u64 ((x : Int) / 4294967296) 65535 = ((x / 4294967296 % 65536 : Nat) : Int) := by have h := mask16 (x / 4294967296) (by omega); rwa [show (((x / 4294967296 : Nat)) : Int) = (x : Int) / 4294967296 by omega] at h
  have mx1 : bits BinOp.and IntKind.u64 ((x : Int) / 65536) 65535 = ((x / 65536 % 65536 : Nat) : Int) := by have h := mask16 (x / 65536) (by omega); rwa [show (((x / 65536 : Nat)) : Int) = (x : Int) / 65536 by omega] at h
  have mx2 : bits BinOp.and IntKind.u64 (x : Int) 65535 = ((x % 65536 : Nat) : Int) := mask16 x (by omega)
  have my0 : bits BinOp.and IntKind.u64 ((y : Int) / 4294967296) 65535 = ((y / 4294967296 % 65536 : Nat) : Int) := by have h := mask16 (y / 4294967296) (by omega); rwa [show (((y / 4294967296 : Nat)) : Int) = (y : Int) / 4294967296 by omega] at h
  have my1 : bits BinOp.and IntKind.u64 ((y : Int) / 65536) 65535 = ((y / 65536 % 65536 : Nat) : Int) := by have h := mask16 (y / 65536) (by omega); rwa [show (((y / 65536 : Nat)) : Int) = (y : Int) / 65536 by omega] at h
  have my2 : bits BinOp.and IntKind.u64 (y : Int) 65535 = ((y % 65536 : Nat) : Int) := mask16 y (by omega)
  have S0 := Lib.hid (DO.start x y N hx hy HN.out)
  go_enter Tryz.func64, Tryz.ntmps64
  go_wp2
  go_loopw [5, 6, 7] (fun a b c wr => ∃ (B cap : Nat) (L : List Nat) (s : List UInt8) (m : Bool), a = .slice (some ⟨B, 0, none⟩) 8 cap ∧ b = .string ⟨s.toArray⟩ ∧ c = .bool m ∧ DOW N W B L s m wr) (fun _ b _ _ => 100 - strLen b)
  case atStart =>
    refine ⟨_, _, [x / 281474976710656, x / 4294967296 % 65536, x / 65536 % 65536, x % 65536, y / 281474976710656, y / 4294967296 % 65536, y / 65536 % 65536, y % 65536], [], true, rfl, rfl, rfl, S0.out, At.new _ _ _, by go_grown, Nat.le_refl _⟩
  case round =>
    clear mx0 mx1 mx2 my0 my1 my2 S0
    obtain ⟨B, cap, L, s, m, rfl, rfl, rfl, hd⟩ := hrel
    have HD := Lib.hid hd
    clear hd
    cases m
    · go_wp2
      go_ret
      exact ⟨by rw [HD.out.d.2.2.2 rfl]; rfl, HD.out.bel⟩
    · go_wp2_with (at_builtin; refine wpList_append_grows _ rfl (.tmp 34) (.tmp 35) 141 rfl 97 i0 (.int .u64 0) 1 8 Tryz.underlying141 HI.out HZ.out HZ1.out HZ2.out rfl (by decide) (some ⟨wr.heap.size, 0, none⟩) 0 0 [] rfl (fun h => by cases h) rfl (by intro _ _ _ _ h; simp at h) ⟨B, 0, none⟩ 8 cap (cellsU L) rfl ?len ?c1 ?c2 (by omega) (by unfold maxLen; omega) (by omega) ?grow)
      case len => rw [cellsU_len, HD.out.d.1]
      case c1 => intro j u hj; rw [Addr.add_lit]; simpa using (HD.out.at'.alloc _).cell j u hj
      case c2 => intro u hu; unfold cellsU at hu; rw [List.mem_map] at hu; obtain ⟨n, _, rfl⟩ := hu; rfl
      case grow =>
        intro v' w1 hown hgrow
        have B1 : Below W.heap.size W w1 := (below_new HD.out.bel _).grown hgrow (by have := HD.out.bel.size; simp; omega) (fun k h => by cases h)
        obtain ⟨g, cap1, rfl, hg, hcap, A1⟩ := At.of_own hown (by omega)
        have hge : W.heap.size ≤ g := by have := HD.out.bel.size; (try simp at hg); omega
        clear hown hgrow hg
        have HA : Hid (At w1 g (cellsU L)) := Lib.hid A1
        have HB := Lib.hid B1
        clear A1 B1 hcap
        go_wp2
        go_loopw [7, 8, 10] (fun a b c wq => ∃ (i r : Nat) (Q : List Nat), i ≤ 8 ∧ a = .bool (decide (0 < valL Q)) ∧ b = .int .u64 r ∧ c = .int .i64 i ∧ DGW W g L Q r i wq) (fun _ _ c _ => 8 - (intOf c).toNat)
        case atStart => exact ⟨0, 0, [], Nat.zero_le _, rfl, rfl, rfl, ⟨rfl, by simp [valL], by omega, by simp⟩, by simpa using HA.out, HB.out⟩
        case round =>
          obtain ⟨i, r, Q, hi, rfl, rfl, rfl, hq⟩ := hrel
          have HQ := Lib.hid hq
          clear hq
          by_cases hlt : i < 8
          · have hil : i < L.length := by rw [HD.out.d.1]; exact hlt
            obtain ⟨l, hl⟩ : ∃ l, L[i] = l := ⟨_, rfl⟩
            have hl5 : l < 65536 := by rw [← hl]; exact HD.out.d.2.1 _ (List.getElem_mem hil)
            have c0 : wr.cell? ⟨g, i, none⟩ = some (.int .u64 (l : Int)) := HQ.out.cell hil hl
            have f0 : wr.frozen? ⟨g, i, none⟩ = false := HQ.out.free hil hl
            have hil' := Lib.hid hil
            obtain ⟨v, q, t, e1, e2, e3, e4, st⟩ := DG.round HQ.out.d hil hl hl5
            have hp := DG.pos (Q := Q) (q := q)
            generalize decide (0 < valL Q) = m at hp ⊢
            have HP := Lib.hid hp
            have HS := Lib.hid st
            clear hp st hl hl5 hil
            cases m
            · by_cases hq0 : 0 < q
              · have d1 : decide (0 < q) = true := by simpa using hq0
                go_wp2
                go_roundw
                case rel => exact ⟨i + 1, t, Q ++ [q], by omega, by rw [HP.out, d1]; rfl, by rw [e3], by go_num, HQ.out.next hge hil'.out HS.out⟩
                case measure => simp [intOf]; omega
              · have d1 : decide (0 < q) = false := by simpa using hq0
                go_wp2
                go_roundw
                case rel => exact ⟨i + 1, t, Q ++ [q], by omega, by rw [HP.out, d1]; rfl, by rw [e3], by go_num, HQ.out.next hge hil'.out HS.out⟩
                case measure => simp [intOf]; omega
            · go_wp2
              go_roundw
              case rel => exact ⟨i + 1, t, Q ++ [q], by omega, by rw [HP.out]; rfl, by rw [e3], by go_num, HQ.out.next hge hil'.out HS.out⟩
              case measure => simp [intOf]; omega
          · have hi8 : i = 8 := by omega
            subst hi8
            generalize hm : decide (0 < valL Q) = m
            have HM := Lib.hid hm
            clear hm
            have hr := HQ.out.d.lt
            obtain ⟨ch, hch⟩ : ∃ ch, UInt8.ofNat (48 + r) = ch := ⟨_, rfl⟩
            have e5 : IntKind.u64.wrap (48 + (r : Int)) % 256 = (ch.toNat : Int) := by
              rw [← hch, IntKind.wrap_u64, UInt8.toNat_ofNat']
              omega
            have hconv := conv_one ch
            have hsl := HD.out.d.slen hnb rfl
            have hs1 : ¬ 9223372036854775807 < 1 + s.length := by omega
            have hd' := HD.out.d.next HQ.out.d (HM.out) hch
            have HD' := Lib.hid hd'
            clear hd'
            have HC := Lib.hid hch
            clear hch hr hi hlt hx hy
            go_wp2
            go_roundw
            case rel => exact ⟨g, cap1, Q, ch :: s, m, rfl, by rw [bapp1], rfl, HD'.out, HQ.out.done HD.out.d.1 _, below_new HQ.out.bel _, hge⟩
            case measure => rw [bapp1]; simp only [strLen]; show 100 - (ch :: s).length < 100 - s.length; simp only [List.length_cons]; omega
end Go.Proofs.YtgldieboflmnhaaGreatDoor
/- The reference's WideText. -/
namespace Go.Proofs.YtgldieboflmnhaaGreatDoor
open Go Go.Proofs Go.RowKit
set_option maxRecDepth 100000
attribute [local go_sem] cell_set
theorem wrap_exN (v : Int) : ∃ h l k : Int, InI h l ∧ val h l = v + k * 340282366920938463463374607431768211456 := by
  refine ⟨wrap64 (v / 18446744073709551616), v % 18446744073709551616, ?_⟩
  have e : ∃ k : Int, wrap64 (v / 18446744073709551616) = v / 18446744073709551616 + k * 18446744073709551616 := ⟨(wrap64 (v / 18446744073709551616) - v / 18446744073709551616) / 18446744073709551616, by unfold wrap64; omega⟩
  obtain ⟨k, hk⟩ := e
  refine ⟨k, ⟨by unfold wrap64; omega, by unfold wrap64; omega, by omega, by omega⟩, by rw [hk]; unfold val; omega⟩
theorem len39 (n : Nat) (h : n < 340282366920938463463374607431768211456) : (Lib.decDigits n).length ≤ 39 :=
  len_pow 39 n (by omega) (by have : (10 : Nat) ^ 39 = 1000000000000000000000000000000000000000 := by decide
                              omega)
set_option maxHeartbeats 1000000 in
theorem ref_text (h1 l1 : Int) (i1 : InI h1 l1) (W : World) :
    Calls Tryz.prog 48 #[.agg #[.int .i64 h1, .int .u64 l1]] W fun e w' => e = .returned (.string ⟨(Lib.itoa (val h1 l1)).toArray⟩) ∧ Below W.heap.size W w' := by
  have j := i1
  obtain ⟨p1, p2, p3, p4⟩ := j
  by_cases hc : h1 < 0
  · obtain ⟨h, l, k, i, v⟩ := wrap_exN (- val h1 l1)
    have M := Lib.hid (fun W => ref_minus h1 l1 h l k i1 i v W)
    have q := i
    obtain ⟨q1, q2, q3, q4⟩ := q
    obtain ⟨x, hx⟩ : ∃ x : Nat, (x : Int) = h % 18446744073709551616 := ⟨(h % 18446744073709551616).toNat, by omega⟩
    obtain ⟨y, rfl⟩ := Int.eq_ofNat_of_zero_le q3
    have e1 : IntKind.u64.wrap h = (x : Int) := by rw [IntKind.wrap_u64]; omega
    have hn : x * 18446744073709551616 + y = (val h1 l1).natAbs := by unfold val at *; omega
    have hneg : val h1 l1 < 0 := by unfold val; omega
    have hb : x * 18446744073709551616 + y < 340282366920938463463374607431768211456 := by omega
    have D := Lib.hid (fun W => digits_any x y (by omega) (by omega) W)
    have hl := len39 _ hb
    rw [Lib.itoa, if_pos hneg, ← hn]
    generalize Lib.decDigits (x * 18446744073709551616 + y) = d at *
    have g1 : ¬ 9223372036854775807 < 1 + d.length := by omega
    clear hn hneg hb hx q1 q2 q4 p1 p2 p3 p4 v i i1 q3 hl
    go_enter Tryz.func48, Tryz.ntmps48
    go_wp2_with fail
    refine (M.out _).mono ?_
    rintro e w1 ⟨rfl, hb1⟩
    have DA : At w1 (W.heap.size) [.int .i64 h1, .int .u64 l1] := by have h := (At.new (W) #[.int .i64 h1, .int .u64 l1] 99).below hb1; simpa using h
    have B : Below W.heap.size W w1 := below_then (below_new (Below.refl _ _) (.cells #[.int .i64 h1, .int .u64 l1] 99)) hb1
    clear hb1
    have aA0 := DA.cell 0 _ rfl
    have aA1 := DA.cell 1 _ rfl
    have nA := DA.lt
    go_wp2_with fail
    refine (D.out _).mono ?_
    rintro e w2 ⟨rfl, hb2⟩
    clear aA0 aA1 nA
    have DA := (DA.alloc (.cells #[.int .i64 h, .int .u64 (y : Int)] 99)).below hb2
    have DM : At w2 (w1.heap.size) [.int .i64 h, .int .u64 (y : Int)] := by have h := (At.new (w1) #[.int .i64 h, .int .u64 (y : Int)] 99).below hb2; simpa using h
    have B : Below W.heap.size W w2 := below_then (below_new (B) (.cells #[.int .i64 h, .int .u64 (y : Int)] 99)) hb2
    clear hb2
    have aA0 := DA.cell 0 _ rfl
    have aA1 := DA.cell 1 _ rfl
    have nA := DA.lt
    have aM0 := DM.cell 0 _ rfl
    have aM1 := DM.cell 1 _ rfl
    have nM := DM.lt
    go_wp2
    go_ret
    exact ⟨by rw [← bapp1]; rfl, by go_grown⟩
  · obtain ⟨x, rfl⟩ := Int.eq_ofNat_of_zero_le (a := h1) (by omega)
    obtain ⟨y, rfl⟩ := Int.eq_ofNat_of_zero_le p3
    have e1 : IntKind.u64.wrap (x : Int) = (x : Int) := by rw [IntKind.wrap_u64]; omega
    have hn : x * 18446744073709551616 + y = (val x y).toNat := by unfold val; omega
    have hneg : ¬ val x y < 0 := by unfold val; omega
    have D := Lib.hid (fun W => digits_any x y (by omega) (by omega) W)
    rw [Lib.itoa, if_neg hneg, ← hn]
    generalize Lib.decDigits (x * 18446744073709551616 + y) = d at *
    clear hn hneg p1 p2 p3 p4 i1
    go_enter Tryz.func48, Tryz.ntmps48
    go_wp2_with fail
    refine (D.out _).mono ?_
    rintro e w1 ⟨rfl, hb1⟩
    have DA : At w1 (W.heap.size) [.int .i64 (x : Int), .int .u64 (y : Int)] := by have h := (At.new (W) #[.int .i64 (x : Int), .int .u64 (y : Int)] 99).below hb1; simpa using h
    have B : Below W.heap.size W w1 := below_then (below_new (Below.refl _ _) (.cells #[.int .i64 (x : Int), .int .u64 (y : Int)] 99)) hb1
    clear hb1
    have aA0 := DA.cell 0 _ rfl
    have aA1 := DA.cell 1 _ rfl
    have nA := DA.lt
    go_wp2
    go_ret
    exact ⟨rfl, by go_grown⟩
end Go.Proofs.YtgldieboflmnhaaGreatDoor
