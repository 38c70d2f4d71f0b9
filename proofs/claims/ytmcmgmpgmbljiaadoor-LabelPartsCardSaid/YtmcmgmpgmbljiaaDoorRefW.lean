/- belfryref9.With. -/
import Derived.Test.YtmcmgmpgmbljiaaDoorRefP
import Derived.Test.YtmcmgmpgmbljiaaDoorWithM
namespace Go.Proofs.YtmcmgmpgmbljiaaDoor
open Go Go.Proofs Go.RowKit Go.Shelf
set_option maxRecDepth 100000
/-- a round of it: what stands, and whether the label has been put -/
def wStep (x : SLab) (s : List SLab × Bool) (y : SLab) : List SLab × Bool :=
  if s.2 = false ∧ Op.bytesLess y.1.1 x.1.1 = false then (if y.1.1 = x.1.1 then (s.1 ++ [x], true) else (s.1 ++ [x] ++ [y], true)) else (if y.1.1 = x.1.1 then s else (s.1 ++ [y], s.2))
def wRun (x : SLab) (e : Bool) (zs : List SLab) : List SLab × Bool := zs.foldl (wStep x) ([], e)
def wFin (x : SLab) (s : List SLab × Bool) : List SLab := if s.2 = true then s.1 else s.1 ++ [x]
theorem wRun_snoc (x : SLab) (e : Bool) (zs : List SLab) (y : SLab) : wRun x e (zs ++ [y]) = wStep x (wRun x e zs) y := by unfold wRun; rw [List.foldl_append]; rfl
theorem wRun_len (x : SLab) (e : Bool) (zs : List SLab) : (wRun x e zs).1.length ≤ 2 * zs.length := by
  rcases List.eq_nil_or_concat zs with rfl | ⟨q, y, rfl⟩
  · exact Nat.le_refl _
  · rw [List.concat_eq_append, wRun_snoc]
    have ih := wRun_len x e q
    rw [List.length_append]
    unfold wStep
    split <;> split <;> simp only [List.length_append, List.length_cons, List.length_nil] <;> omega
termination_by zs.length
decreasing_by rename_i h; subst h; simp
theorem keep_one {x y : SLab} : keepB [x.1.1] false y = true ↔ y.1.1 ≠ x.1.1 := by
  unfold keepB
  constructor
  · intro h e
    rw [e] at h; simp at h
  · intro h
    simp [h]
theorem wFold_put (x : SLab) : ∀ (l : List SLab) (acc : List SLab), l.foldl (wStep x) (acc, true) = (acc ++ l.filter (keepB [x.1.1] false), true) := by
  intro l
  induction l with
  | nil => intro acc; simp
  | cons y t ih =>
    intro acc
    rw [List.foldl_cons, List.filter_cons]
    by_cases h : y.1.1 = x.1.1
    · rw [show wStep x (acc, true) y = (acc, true) by unfold wStep; rw [if_neg (by simp), if_pos h], ih, if_neg (by rw [keep_one]; exact fun h' => h' h)]
    · rw [show wStep x (acc, true) y = (acc ++ [y], true) by unfold wStep; rw [if_neg (by simp), if_neg h], ih, if_pos (by rw [keep_one]; exact h)]
      simp
theorem wFold_less (x : SLab) : ∀ (l : List SLab) (acc : List SLab), (∀ z ∈ l, Op.bytesLess z.1.1 x.1.1 = true) → l.foldl (wStep x) (acc, false) = (acc ++ l, false) := by
  intro l
  induction l with
  | nil => intro acc _; simp
  | cons y t ih =>
    intro acc h
    have hy := h y List.mem_cons_self
    have hne : y.1.1 ≠ x.1.1 := fun e => by rw [e, bl_irr] at hy; cases hy
    rw [List.foldl_cons, show wStep x (acc, false) y = (acc ++ [y], false) by unfold wStep; rw [if_neg (by rw [hy]; simp), if_neg hne], ih _ (fun z hz => h z (List.mem_cons_of_mem _ hz))]
    simp
theorem wFold_from (x : SLab) (l acc : List SLab) (h : ∀ z ∈ l, Op.bytesLess z.1.1 x.1.1 = false) : wFin x (l.foldl (wStep x) (acc, false)) = acc ++ x :: l.filter (keepB [x.1.1] false) := by
  cases l with
  | nil => rfl
  | cons y t =>
    have hy := h y List.mem_cons_self
    rw [List.foldl_cons, List.filter_cons]
    by_cases q : y.1.1 = x.1.1
    · rw [show wStep x (acc, false) y = (acc ++ [x], true) by unfold wStep; rw [if_pos ⟨rfl, hy⟩, if_pos q], wFold_put, if_neg (by rw [keep_one]; exact fun h' => h' q)]
      unfold wFin
      simp
    · rw [show wStep x (acc, false) y = (acc ++ [x] ++ [y], true) by unfold wStep; rw [if_pos ⟨rfl, hy⟩, if_neg q], wFold_put, if_pos (by rw [keep_one]; exact q)]
      unfold wFin
      simp
theorem rise_parts (n : List UInt8) : ∀ zs : List SLab, Rise zs → ∃ A B, zs = A ++ B ∧ (∀ z ∈ A, Op.bytesLess z.1.1 n = true) ∧ ∀ z ∈ B, Op.bytesLess z.1.1 n = false := by
  intro zs
  induction zs with
  | nil => intro _; exact ⟨[], [], rfl, fun z hz => absurd hz (by simp), fun z hz => absurd hz (by simp)⟩
  | cons y t ih =>
    intro h
    obtain ⟨r1, r2⟩ := List.pairwise_cons.1 h
    cases hb : Op.bytesLess y.1.1 n
    · refine ⟨[], y :: t, rfl, fun z hz => absurd hz (by simp), fun z hz => ?_⟩
      rcases List.mem_cons.1 hz with rfl | hz
      · exact hb
      · cases hz' : Op.bytesLess z.1.1 n
        · rfl
        · rw [bl_trans _ _ _ (r1 z hz) hz'] at hb; cases hb
    · obtain ⟨A, B, rfl, hA, hB⟩ := ih r2
      refine ⟨y :: A, B, rfl, fun z hz => ?_, hB⟩
      rcases List.mem_cons.1 hz with rfl | hz
      · exact hb
      · exact hA z hz
/-- what the reference's With hands back is what the program's does -/
theorem with_same (zs : List SLab) (h : Rise zs) (n v : List UInt8) (hs : Short (n, v)) :
    ∃ p, p ≤ (othersR zs n).length ∧ (∀ k x, (othersR zs n)[k]? = some x → (Op.bytesLess x.1.1 n = true ↔ k < p)) ∧ withR zs n v hs p = wFin ⟨(n, v), hs⟩ (wRun ⟨(n, v), hs⟩ (v == []) zs) := by
  obtain ⟨A, B, rfl, hA, hB⟩ := rise_parts n zs h
  have hAo : A.filter (keepB [n] false) = A := oth_self (fun z hz e => by
    have := hA z hz
    rw [e, bl_irr] at this; cases this)
  have ho : othersR (A ++ B) n = A ++ B.filter (keepB [n] false) := by rw [oth_app]; show A.filter _ ++ _ = _; rw [hAo]; rfl
  have hk : ∀ z ∈ B.filter (keepB [n] false), Op.bytesLess z.1.1 n = false := fun z hz => hB z (List.mem_filter.1 hz).1
  refine ⟨A.length, by rw [ho, List.length_append]; omega, fun k x hx => ?_, ?_⟩
  · rw [ho] at hx
    by_cases hkl : k < A.length
    · rw [List.getElem?_append_left hkl] at hx
      exact ⟨fun _ => hkl, fun _ => hA x (List.mem_of_getElem? hx)⟩
    · rw [List.getElem?_append_right (by omega)] at hx
      have := hk x (List.mem_of_getElem? hx)
      exact ⟨fun e => (by rw [this] at e; cases e), fun e => absurd e hkl⟩
  · unfold withR wRun
    by_cases hv : v = []
    · rw [if_pos hv, ho, show (v == []) = true from by rw [beq_iff_eq]; exact hv, wFold_put]
      show _ = wFin _ _
      unfold wFin
      rw [if_pos rfl, List.filter_append]
      show _ = [] ++ (A.filter (keepB [n] false) ++ B.filter (keepB [n] false))
      rw [hAo]; rfl
    · rw [if_neg hv, ho, List.take_left, List.drop_left, show (v == []) = false from by rw [beq_eq_false_iff_ne]; exact hv, List.foldl_append, wFold_less _ A [] hA, wFold_from _ B _ hB]
      rfl
set_option maxHeartbeats 8000000 in
theorem rwith_any (a : Option Addr) (len cap : Nat) (zs : List SLab) (hlen : zs.length ≤ 100) (n v : List UInt8) (hs : Short (n, v)) (w : World) (hI : Labs w.heap.size w (.slice a len cap) zs) :
    Calls Tryd.prog 34 #[.slice a len cap, .string ⟨n.toArray⟩, .string ⟨v.toArray⟩] w (NewR w (wFin ⟨(n, v), hs⟩ (wRun ⟨(n, v), hs⟩ (v == []) zs))) := by
  obtain ⟨i0, hi, hz0, hz1, hz2⟩ := info_parts info_rlab
  have HI0 := Lib.hid hi
  have HZ := Lib.hid hz0
  have HZ1 := Lib.hid hz1
  have HZ2 := Lib.hid hz2
  clear hi hz0 hz1 hz2
  obtain rfl : len = zs.length := hI.len
  have HI := Lib.hid hI
  clear hI
  have eb : (⟨n.toArray⟩ : ByteArray).toList = n := by rw [ByteArray.toList_eq]
  have ev : (⟨v.toArray⟩ : ByteArray).toList = v := by rw [ByteArray.toList_eq]
  have e0 : (⟨#[]⟩ : ByteArray).toList = [] := by rw [ByteArray.toList_eq]
  obtain ⟨X, hX⟩ : ∃ X : SLab, X = ⟨(n, v), hs⟩ := ⟨_, rfl⟩
  rw [← hX]
  have hXn : X.1.1 = n := by rw [hX]
  have hXv : X.1.2 = v := by rw [hX]
  have XN := Lib.hid hXn
  have XV := Lib.hid hXv
  clear hX hs hXn hXv
  obtain ⟨e, he⟩ : ∃ e, (v == []) = e := ⟨_, rfl⟩
  rw [he]
  go_enter Tryd.func34, Tryd.ntmps34
  go_wp2
  go_loopw [7, 8, 9] (fun o u i wr => ∃ (k : Nat) (s : List SLab × Bool) (m : Nat), k ≤ zs.length ∧ i = .int .i64 (k : Int) ∧ wRun X e (zs.take k) = s ∧ u = .bool s.2 ∧ (m = s.1.length ∧ wr.ownsRow w.heap.size 59 2 o m (labC s.1)) ∧ Below w.heap.size w wr) (fun _ _ i _ => zs.length - (intOf i).toNat)
  case atStart => exact ⟨0, ([], e), 0, Nat.zero_le _, rfl, rfl, by first | rfl | (rw [he]), ⟨rfl, World.ownsRow_nil _ _ _ _⟩, Below.refl _ _⟩
  case round =>
    obtain ⟨k, ⟨o, pt⟩, m, hk, rfl, hR, rfl, ⟨hm, hO⟩, hB⟩ := hrel
    have hml : m ≤ 200 := by
      have h1 := wRun_len X e (zs.take k)
      rw [hR, List.length_take] at h1
      dsimp only at hm h1
      omega
    dsimp only at hO hm
    by_cases hlt : k < zs.length
    · obtain ⟨x, hx⟩ : ∃ x, zs[k]? = some x := ⟨_, List.getElem?_eq_getElem hlt⟩
      obtain ⟨hn, hxe⟩ := List.getElem?_eq_some_iff.1 hx
      have hsn : wRun X e (zs.take (k + 1)) = wStep X (o, pt) x := by rw [List.take_succ_eq_append_getElem hn, hxe, wRun_snoc, hR]
      unfold wStep at hsn
      rw [XN.out] at hsn
      dsimp only at hsn
      rcases HI.out with ⟨_, rfl⟩ | ⟨b, off, c, ec, hb, hc⟩
      · simp at hlt
      obtain ⟨rfl, rfl⟩ : a = some ⟨b, off, none⟩ ∧ cap = c := by simpa using ec
      obtain ⟨c00, c10⟩ := hc k x hx
      have C0 := Lib.hid c00
      have C1 := Lib.hid c10
      have c0 := (hB.cell (p := ⟨b, off + k * 2, none⟩) hb).trans c00
      have c1 := (hB.cell (p := ⟨b, off + k * 2 + 1, none⟩) hb).trans c10
      have h0 : (0 : Int) ≤ (k : Int) := by omega
      have h1 : (k : Int) < (zs.length : Int) := by omega
      have ea : (⟨x.1.1.toArray⟩ : ByteArray).toList = x.1.1 := by rw [ByteArray.toList_eq]
      have HO := Lib.hid hO
      have HM := Lib.hid hm
      have HE := Lib.hid he
      clear ec hc hx hxe hO c00 c10 he hR hm
      by_cases qe : x.1.1 = n
      · have qless : Op.bytesLess x.1.1 n = false := by rw [qe, bl_irr]
        cases pt
        · rw [if_pos ⟨rfl, qless⟩] at hsn
          rw [if_pos qe] at hsn
          have SN := Lib.hid hsn
          clear hsn
          have q1 : (x.1.1 == n) = true := by rw [beq_iff_eq]; exact qe
          have q2 : (x.1.1 != n) = false := by rw [bne_eq_false_iff_eq]; exact qe
          clear qe
          go_wp2_with (at_builtin; refine wpList_append_own _ rfl _ _ 27 rfl w.heap.size 59 i0 (.agg #[.string ⟨#[]⟩, .string ⟨#[]⟩]) 2 32 Tryd.underlying27 HI0.out HZ.out HZ1.out HZ2.out rfl (by decide) _ m _ rfl (HO.out.alloc _) ⟨wr.heap.size, 0, none⟩ 1 1 [.string ⟨n.toArray⟩, .string ⟨v.toArray⟩] rfl rfl (cells2_new _ _ _ _) ?j1z ?j2z ?j3z ?j4z ?_)
          case j1z => intro u hu; simp at hu; rcases hu with rfl | rfl <;> rfl
          case j2z => unfold maxLen; omega
          case j3z => omega
          case j4z => have := hB.size; simp; omega
          intro vz wz hown' hgrow _
          have hBz : Below w.heap.size w wz := (hB.alloc hB.size _).grown hgrow (by have := hB.size; simp; omega) (fun q eq => by
            rcases HO.out.2 with ⟨rfl, _⟩ | ⟨g, cp, cur, rfl, hbg, _⟩
            · simp [Value.ownBlock] at eq
            · obtain rfl : g = q := by simpa [Value.ownBlock] using eq
              exact hbg)
          have HOz := Lib.hid hown'
          clear hown' hgrow
          have c0 := (hBz.cell (p := ⟨b, off + k * 2, none⟩) hb).trans C0.out
          have c1 := (hBz.cell (p := ⟨b, off + k * 2 + 1, none⟩) hb).trans C1.out
          go_wp2
          go_roundw
          case rel => exact ⟨k + 1, _, m + 1, by omega, by go_num, SN.out, by first | rfl | (show Value.bool _ = Value.bool _; rfl), ⟨by rw [List.length_append, ← HM.out]; rfl, by rw [labC_snoc, XN.out, XV.out]; exact HOz.out⟩, hBz⟩
          case measure => simp [intOf]; omega
        · rw [if_neg (by simp)] at hsn
          rw [if_pos qe] at hsn
          have SN := Lib.hid hsn
          clear hsn
          have q1 : (x.1.1 == n) = true := by rw [beq_iff_eq]; exact qe
          have q2 : (x.1.1 != n) = false := by rw [bne_eq_false_iff_eq]; exact qe
          clear qe
          go_wp2
          go_roundw
          case rel => exact ⟨k + 1, _, m, by omega, by go_num, SN.out, by first | rfl | (show Value.bool _ = Value.bool _; rfl), ⟨HM.out, HO.out⟩, hB⟩
          case measure => simp [intOf]; omega
      · cases pt
        · cases qless : Op.bytesLess x.1.1 n
          · rw [if_pos ⟨rfl, qless⟩] at hsn
            rw [if_neg qe] at hsn
            have SN := Lib.hid hsn
            clear hsn
            have q1 : (x.1.1 == n) = false := by rw [beq_eq_false_iff_ne]; exact qe
            have q2 : (x.1.1 != n) = true := by rw [bne_iff_ne]; exact qe
            clear qe
            go_wp2_with (at_builtin; refine wpList_append_own _ rfl _ _ 27 rfl w.heap.size 59 i0 (.agg #[.string ⟨#[]⟩, .string ⟨#[]⟩]) 2 32 Tryd.underlying27 HI0.out HZ.out HZ1.out HZ2.out rfl (by decide) _ m _ rfl (HO.out.alloc _) ⟨wr.heap.size, 0, none⟩ 1 1 [.string ⟨n.toArray⟩, .string ⟨v.toArray⟩] rfl rfl (cells2_new _ _ _ _) ?j1y ?j2y ?j3y ?j4y ?_)
            case j1y => intro u hu; simp at hu; rcases hu with rfl | rfl <;> rfl
            case j2y => unfold maxLen; omega
            case j3y => omega
            case j4y => have := hB.size; simp; omega
            intro vy wy hown' hgrow _
            have hBy : Below w.heap.size w wy := (hB.alloc hB.size _).grown hgrow (by have := hB.size; simp; omega) (fun q eq => by
              rcases HO.out.2 with ⟨rfl, _⟩ | ⟨g, cp, cur, rfl, hbg, _⟩
              · simp [Value.ownBlock] at eq
              · obtain rfl : g = q := by simpa [Value.ownBlock] using eq
                exact hbg)
            have HOy := Lib.hid hown'
            clear hown' hgrow
            have c0 := (hBy.cell (p := ⟨b, off + k * 2, none⟩) hb).trans C0.out
            have c1 := (hBy.cell (p := ⟨b, off + k * 2 + 1, none⟩) hb).trans C1.out
            go_wp2_with (at_builtin; refine wpList_append_own _ rfl _ _ 27 rfl w.heap.size 59 i0 (.agg #[.string ⟨#[]⟩, .string ⟨#[]⟩]) 2 32 Tryd.underlying27 HI0.out HZ.out HZ1.out HZ2.out rfl (by decide) _ (m + 1) _ rfl (HOy.out.alloc _) ⟨wy.heap.size, 0, none⟩ 1 1 [.string ⟨x.1.1.toArray⟩, .string ⟨x.1.2.toArray⟩] rfl rfl (cells2_new _ _ _ _) ?j1z ?j2z ?j3z ?j4z ?_)
            case j1z => intro u hu; simp at hu; rcases hu with rfl | rfl <;> rfl
            case j2z => unfold maxLen; omega
            case j3z => omega
            case j4z => have := hBy.size; simp; omega
            intro vz wz hown' hgrow _
            have hBz : Below w.heap.size w wz := (hBy.alloc hBy.size _).grown hgrow (by have := hBy.size; simp; omega) (fun q eq => by
              rcases HOy.out.2 with ⟨rfl, _⟩ | ⟨g, cp, cur, rfl, hbg, _⟩
              · simp [Value.ownBlock] at eq
              · obtain rfl : g = q := by simpa [Value.ownBlock] using eq
                exact hbg)
            have HOz := Lib.hid hown'
            clear hown' hgrow
            go_wp2
            go_roundw
            case rel => exact ⟨k + 1, _, m + 1 + 1, by omega, by go_num, SN.out, by first | rfl | (show Value.bool _ = Value.bool _; rfl), ⟨by rw [List.length_append, List.length_append, ← HM.out]; rfl, by rw [labC_snoc, labC_snoc, XN.out, XV.out, List.append_assoc]; exact HOz.out⟩, hBz⟩
            case measure => simp [intOf]; omega
          · rw [if_neg (by simp [qless])] at hsn
            rw [if_neg qe] at hsn
            have SN := Lib.hid hsn
            clear hsn
            have q1 : (x.1.1 == n) = false := by rw [beq_eq_false_iff_ne]; exact qe
            have q2 : (x.1.1 != n) = true := by rw [bne_iff_ne]; exact qe
            clear qe
            go_wp2_with (at_builtin; refine wpList_append_own _ rfl _ _ 27 rfl w.heap.size 59 i0 (.agg #[.string ⟨#[]⟩, .string ⟨#[]⟩]) 2 32 Tryd.underlying27 HI0.out HZ.out HZ1.out HZ2.out rfl (by decide) _ m _ rfl (HO.out.alloc _) ⟨wr.heap.size, 0, none⟩ 1 1 [.string ⟨x.1.1.toArray⟩, .string ⟨x.1.2.toArray⟩] rfl rfl (cells2_new _ _ _ _) ?j1z ?j2z ?j3z ?j4z ?_)
            case j1z => intro u hu; simp at hu; rcases hu with rfl | rfl <;> rfl
            case j2z => unfold maxLen; omega
            case j3z => omega
            case j4z => have := hB.size; simp; omega
            intro vz wz hown' hgrow _
            have hBz : Below w.heap.size w wz := (hB.alloc hB.size _).grown hgrow (by have := hB.size; simp; omega) (fun q eq => by
              rcases HO.out.2 with ⟨rfl, _⟩ | ⟨g, cp, cur, rfl, hbg, _⟩
              · simp [Value.ownBlock] at eq
              · obtain rfl : g = q := by simpa [Value.ownBlock] using eq
                exact hbg)
            have HOz := Lib.hid hown'
            clear hown' hgrow
            have c0 := (hBz.cell (p := ⟨b, off + k * 2, none⟩) hb).trans C0.out
            have c1 := (hBz.cell (p := ⟨b, off + k * 2 + 1, none⟩) hb).trans C1.out
            go_wp2
            go_roundw
            case rel => exact ⟨k + 1, _, m + 1, by omega, by go_num, SN.out, by first | rfl | (show Value.bool _ = Value.bool _; rfl), ⟨by rw [List.length_append, ← HM.out]; rfl, by rw [labC_snoc]; exact HOz.out⟩, hBz⟩
            case measure => simp [intOf]; omega
        · rw [if_neg (by simp)] at hsn
          rw [if_neg qe] at hsn
          have SN := Lib.hid hsn
          clear hsn
          have q1 : (x.1.1 == n) = false := by rw [beq_eq_false_iff_ne]; exact qe
          have q2 : (x.1.1 != n) = true := by rw [bne_iff_ne]; exact qe
          clear qe
          go_wp2_with (at_builtin; refine wpList_append_own _ rfl _ _ 27 rfl w.heap.size 59 i0 (.agg #[.string ⟨#[]⟩, .string ⟨#[]⟩]) 2 32 Tryd.underlying27 HI0.out HZ.out HZ1.out HZ2.out rfl (by decide) _ m _ rfl (HO.out.alloc _) ⟨wr.heap.size, 0, none⟩ 1 1 [.string ⟨x.1.1.toArray⟩, .string ⟨x.1.2.toArray⟩] rfl rfl (cells2_new _ _ _ _) ?j1z ?j2z ?j3z ?j4z ?_)
          case j1z => intro u hu; simp at hu; rcases hu with rfl | rfl <;> rfl
          case j2z => unfold maxLen; omega
          case j3z => omega
          case j4z => have := hB.size; simp; omega
          intro vz wz hown' hgrow _
          have hBz : Below w.heap.size w wz := (hB.alloc hB.size _).grown hgrow (by have := hB.size; simp; omega) (fun q eq => by
            rcases HO.out.2 with ⟨rfl, _⟩ | ⟨g, cp, cur, rfl, hbg, _⟩
            · simp [Value.ownBlock] at eq
            · obtain rfl : g = q := by simpa [Value.ownBlock] using eq
              exact hbg)
          have HOz := Lib.hid hown'
          clear hown' hgrow
          have c0 := (hBz.cell (p := ⟨b, off + k * 2, none⟩) hb).trans C0.out
          have c1 := (hBz.cell (p := ⟨b, off + k * 2 + 1, none⟩) hb).trans C1.out
          go_wp2
          go_roundw
          case rel => exact ⟨k + 1, _, m + 1, by omega, by go_num, SN.out, by first | rfl | (show Value.bool _ = Value.bool _; rfl), ⟨by rw [List.length_append, ← HM.out]; rfl, by rw [labC_snoc]; exact HOz.out⟩, hBz⟩
          case measure => simp [intOf]; omega
    · obtain rfl : k = zs.length := by omega
      rw [List.take_length] at hR
      have HO := Lib.hid hO
      have HM := Lib.hid hm
      have HE := Lib.hid he
      cases pt
      · have FI : Hid (wFin X (wRun X e zs) = o ++ [X]) := by unfold Hid wFin; rw [hR, if_neg (by simp)]
        clear hO hm hR he
        go_wp2_with (at_builtin; refine wpList_append_own _ rfl _ _ 27 rfl w.heap.size 59 i0 (.agg #[.string ⟨#[]⟩, .string ⟨#[]⟩]) 2 32 Tryd.underlying27 HI0.out HZ.out HZ1.out HZ2.out rfl (by decide) _ m _ rfl (HO.out.alloc _) ⟨wr.heap.size, 0, none⟩ 1 1 [.string ⟨n.toArray⟩, .string ⟨v.toArray⟩] rfl rfl (cells2_new _ _ _ _) ?j1z ?j2z ?j3z ?j4z ?_)
        case j1z => intro u hu; simp at hu; rcases hu with rfl | rfl <;> rfl
        case j2z => unfold maxLen; omega
        case j3z => omega
        case j4z => have := hB.size; simp; omega
        intro vz wz hown' hgrow _
        have hBz : Below w.heap.size w wz := (hB.alloc hB.size _).grown hgrow (by have := hB.size; simp; omega) (fun q eq => by
          rcases HO.out.2 with ⟨rfl, _⟩ | ⟨g, cp, cur, rfl, hbg, _⟩
          · simp [Value.ownBlock] at eq
          · obtain rfl : g = q := by simpa [Value.ownBlock] using eq
            exact hbg)
        have HOz := Lib.hid hown'
        clear hown' hgrow
        go_wp2
        go_ret
        refine ⟨_, rfl, ?_, hBz⟩
        rw [FI.out, List.length_append, ← HM.out, labC_snoc, XN.out, XV.out]
        exact HOz.out
      · have FI : Hid (wFin X (wRun X e zs) = o) := by unfold Hid wFin; rw [hR, if_pos rfl]
        clear hO hm hR he
        go_wp2
        go_ret
        refine ⟨_, rfl, ?_, hB⟩
        rw [FI.out, ← HM.out]
        exact HO.out
end Go.Proofs.YtmcmgmpgmbljiaaDoor
