/- Ahead of known: Arm; an append that leaves the elder slice as it reads. -/
import Derived.Test.YteddlpcnefogpaaJnP
import Derived.Lib.SlBytesConst
namespace Go.Proofs.Yteddlpcnefogpaa
open Go Go.Proofs Go.RowKit Go.Shelf
set_option maxRecDepth 100000
theorem append_old (base g n cap : Nat) (X : List Value) (a : Addr) (m c : Nat) (news : List Value) (w : World) (hown : w.ownsRow base 5 1 (.slice (some ⟨g, 0, none⟩) n cap) n X)
    (hl : news.length = m) (hnews : ∀ j u, news[j]? = some u → w.cell? (a.add j) = some u) (h1 : ∀ u ∈ news, u.oneCell' = true) (h63 : n + m ≤ 1099511627776) (hbase : base ≤ w.heap.size) :
    ∃ v' w', (∀ ty, (Builtin.append_ #[22, 22] ty #[.slice (some ⟨g, 0, none⟩) n cap, .slice (some a) m c]).run Try.prog w = .ok v' w') ∧ w'.ownsRow base 5 1 v' (n + m) (X ++ news) ∧ w.grownBy w' (some g) ∧ w'.ownsRow base 5 1 (.slice (some ⟨g, 0, none⟩) n cap) n X := by
  obtain ⟨i, hi, hz, hsize, hby⟩ := info_parts info_u8
  have ht := Try.underlying22
  have hX : X.length = n := by simpa using hown.1
  have hlen : (X ++ news).length = (n + m) * 1 := by rw [List.length_append, hX, hl, Nat.mul_one]
  have ho := hown
  rcases hown.2 with ⟨e, _⟩ | ⟨g', cap', cur, e, hbg, hg, hnc, hcm, hcs, htake⟩
  · cases e
  · injection e with e1 _ e3
    cases e1
    subst e3
    by_cases hroom : n + m ≤ cap
    · have hfit : n * i.size + news.length ≤ cur.size := by rw [hl, hcs, hsize]; omega
      have hr := fun ty => run_append_room (P := Try.prog) (w := w) 22 ty 5 i ht hi g n cap cur hg a m c news (by rw [hl, hsize, Nat.mul_one]) hnews h1 hroom hfit
      rw [hsize, Nat.mul_one, hl] at hr
      have hcl : cur.toList.length = cap := by simpa using hcs
      have htk : cur.toList.take n = X := by simpa using htake
      rw [htk] at hr
      have hs : (X ++ news ++ cur.toList.drop (n + m)).toArray.size = cap * 1 := by
        simp only [List.size_toArray, List.length_append, List.length_drop, hX, hl, hcl]
        omega
      refine ⟨_, _, hr, ⟨hlen, .inr ⟨g, cap, _, rfl, hbg, setRow_heap w g cur _ 5 _ hg, hroom, hcm, hs, ?_⟩⟩, ⟨rfl, rfl, rfl, by simp, fun k _ hk => setRow_other w g k _ (fun e => hk (by rw [e]))⟩, ⟨hown.1, .inr ⟨g, cap, _, rfl, hbg, setRow_heap w g cur _ 5 _ hg, hnc, hcm, hs, ?_⟩⟩⟩
      · rw [List.toList_toArray, ← hlen]
        exact List.take_left
      · rw [List.toList_toArray, List.append_assoc, Nat.mul_one, ← hX]
        exact List.take_left
    · have holds : ∀ j u, X[j]? = some u → w.cell? ((⟨g, 0, none⟩ : Addr).add j) = some u := hown.cells (g := g) rfl
      have hr := fun ty => run_append_grow (P := Try.prog) (w := w) 22 ty 5 i _ ht hi hz ⟨g, 0, none⟩ n cap X (by rw [hX, hsize, Nat.mul_one]) holds a m c news (by rw [hl, hsize, Nat.mul_one]) hnews (by omega) (by omega) (by rw [hby]; exact growslice_fits (by omega) (by omega))
      have hge := grownCap_ge w (n + m) cap 5
      have hgB : ∀ o, w.grownBy (w.drew.alloc o) (some g) := fun o => ⟨rfl, rfl, rfl, by simp, fun k hk _ => heap_alloc_old w.drew _ k hk⟩
      refine ⟨_, _, hr, ⟨hlen, .inr ⟨w.heap.size, _, _, rfl, hbase, heap_alloc_new w.drew _, hge, grownCap_le_maxLen w (n + m) cap 5 (by unfold maxLen; omega), ?_, ?_⟩⟩, hgB _, (row_drewN ho 1).alloc _⟩
      · have hz1 : (Value.int IntKind.u8 0).cells.size = 1 := rfl
        simp only [Array.size_append, List.size_toArray, size_zeroCells, hz1, hX, hl]
        omega
      · simp only [Array.toList_append, List.append_assoc]
        rw [← List.append_assoc, ← hlen]
        exact List.take_left
theorem arm_any (base b : Nat) (v : Value) (d : Dk) (n keep : Int) (w : World) (h : DkAt base w b v d) (hn1 : n ≤ 9223372036854775807) (hk0 : -9223372036854775808 ≤ keep) (hk1 : keep ≤ 9223372036854775807) :
    Calls Try.prog 19 #[.pointer (some ⟨b, 0, none⟩), .int .i64 n, .int .i64 keep] w fun e w' => e = .returned (.tuple #[]) ∧ DkAt base w' b v { d with armed := max n 1, leave := keep } ∧ DTo w w' b v v := by
  have hA := h.at.f6
  have HP : Hid (DkAt base ((w.setCell ⟨b, 3, none⟩ (.int .i64 (max n 1))).setCell ⟨b, 4, none⟩ (.int .i64 keep)) b v { d with armed := max n 1, leave := keep } ∧ DTo w ((w.setCell ⟨b, 3, none⟩ (.int .i64 (max n 1))).setCell ⟨b, 4, none⟩ (.int .i64 keep)) b v v) :=
    ⟨⟨h.ge, blk_set (blk_set h.blk 3 _) 4 _, (h.own.kept (grownBy_set w b 3 _) (.inr h.not_row)).kept (grownBy_set _ b 4 _) (.inr h.not_row), ⟨h.fits.len, h.fits.kept, by show (0 : Int) ≤ max n 1; omega, by show max n 1 ≤ _; omega, hk0, hk1, h.fits.ops0, h.fits.ops1⟩⟩, DTo.set.trans DTo.set⟩
  clear h
  go_enter Try.func19, Try.ntmps19
  go_wp2
  first
    | (go_end0; exact ⟨rfl, HP.out⟩)
    | (go_ret; exact ⟨rfl, HP.out⟩)
end Go.Proofs.Yteddlpcnefogpaa
