/- slices.Delete of one edge. -/
import Derived.Test.YthefeijgpgcecaaGrC
import Derived.Lib.SliceRun
namespace Go.Proofs.Ythefeijgpgcecaa
open Go.RowKit

def zs4 : List Value := [.int .i64 0, .int .i64 0, .int .i64 0, .int .i64 0]

/-- clear of one edge. -/
theorem run_clear_edge (w : World) (ty : TypeId) (b o c : Nat) (hc : ∀ j, j < 4 → (w.cell? ⟨b, o + j, none⟩).isSome = true) (hf : ∀ j, j < 4 → w.frozen? ⟨b, o + j, none⟩ = false) :
    (Builtin.clear_ #[22] ty #[.slice (some ⟨b, o, none⟩) 1 c]).run Try.prog w = .ok (.tuple #[]) (w.setCells b o zs4) := by
  obtain ⟨i0, hi, hz0, hz1, hz2⟩ := infoE
  have hv : ∀ w : World, (zeroValue 36).run Try.prog w = .ok (.agg #[.int .i64 0, .int .i64 0, .int .i64 0, .int .i64 0]) w := fun w => by
    simp [zeroValue, typeInfo, hi, hz0]
  have hzc : (Builtin.zeroCells (Value.agg #[.int .i64 0, .int .i64 0, .int .i64 0, .int .i64 0]).cells 1).toList = zs4 := by kernel_rfl
  have hst := run_storeCells_cells (P := Try.prog) b o zs4 0 w (by simpa [zs4] using hc) (by simpa [zs4] using hf) (by intro v hv'; simp only [zs4, List.mem_cons, List.not_mem_nil, or_false] at hv'; rcases hv' with rfl | rfl | rfl | rfl <;> rfl)
  simp only [Nat.add_zero] at hst
  simp [Builtin.clear_, run_underlying Try.underlying22, hv, hzc, hst]

theorem owns_isSome {w : World} {base e size n g cap : Nat} {xs : List Value} (h : w.ownsRow base e size (.slice (some ⟨g, 0, none⟩) n cap) n xs) (j : Nat) (hj : j < n * size) : (w.cell? ⟨g, j, none⟩).isSome = true := by
  rw [h.cellAt j hj]; simp [h.1, hj]

set_option maxRecDepth 100000 in
set_option maxHeartbeats 2000000 in
theorem del_calls (w : World) (g n cap i : Nat) (es : List Ed) (O : w.ownsRow 0 36 4 (.slice (some ⟨g, 0, none⟩) n cap) n (evals es)) (hl : Hid (es.length = n)) (hi : i < n) (hn : n ≤ 4096) :
    Calls Try.prog 32 #[.slice (some ⟨g, 0, none⟩) n cap, .int .i64 (i : Int), .int .i64 ((i + 1 : Nat) : Int)] w fun e w' => e = .returned (.slice (some ⟨g, 0, none⟩) (n - 1) cap) ∧ w'.ownsRow 0 36 4 (.slice (some ⟨g, 0, none⟩) (n - 1) cap) (n - 1) (evals (es.eraseIdx i)) ∧ Ch (fun k => k = g) w w' := by
  obtain ⟨i0, hi0, hz0, hz1, hz2⟩ := infoE
  have room : n ≤ cap ∧ cap ≤ 9223372036854775807 := by
    rcases O.2 with ⟨t, _⟩ | ⟨g', cap', cur, t, _, _, a, b, _⟩
    · simp at t
    · simp only [Value.slice.injEq, Option.some.injEq, Addr.mk.injEq, and_true, true_and] at t
      obtain ⟨rfl, rfl⟩ := t
      unfold maxLen at b
      exact ⟨a, by omega⟩
  obtain ⟨r1, r2⟩ := room
  have O0 : w.drew.ownsRow 0 36 4 (.slice (some ⟨g, 0, none⟩) n cap) n (evals es) := O.drew
  obtain ⟨news, hnews⟩ : ∃ news, news = evals (es.drop (i + 1)) := ⟨_, rfl⟩
  have hlen : news.length = (n - (i + 1)) * 4 := by rw [hnews, evals_len, List.length_drop, hl.out]
  obtain ⟨A, hA, hsrc⟩ : ∃ A : Addr, (if cap = i + 1 then some (⟨g, 0, none⟩ : Addr) else some ⟨g, (i + 1) * 4, none⟩) = some A ∧ Hid (∀ t u, news[t]? = some u → w.drew.cell? (A.add t) = some u) := by
    by_cases h : cap = i + 1
    · refine ⟨⟨g, 0, none⟩, by simp [h], fun t u hu => ?_⟩
      have h0 : news.length = 0 := by rw [hlen]; omega
      rw [List.length_eq_zero_iff.1 h0] at hu
      simp at hu
    · refine ⟨⟨g, (i + 1) * 4, none⟩, by simp [h], fun t u hu => ?_⟩
      have ht : t < (n - (i + 1)) * 4 := by
        have := (List.getElem?_eq_some_iff.1 hu).1
        rwa [hlen] at this
      have ga : ((⟨g, (i + 1) * 4, none⟩ : Addr).add t) = ⟨g, (i + 1) * 4 + t, none⟩ := by
        by_cases hm : t = 0
        · subst hm; simp [Addr.add]
        · simp [Addr.add, hm]
      rw [ga, O0.cellAt _ (by omega), ← hu, hnews, evals_drop, List.getElem?_drop]
  have s2 : Hid (∀ u ∈ news, u.oneCell' = true) := by rw [hnews]; exact evals_one _
  have s3 : Hid (∀ t, t < news.length → (w.drew.cell? ⟨g, 0 + i * 4 + t, none⟩).isSome = true ∧ w.drew.frozen? ⟨g, 0 + i * 4 + t, none⟩ = false) := by
    intro t ht
    rw [hlen] at ht
    exact ⟨owns_isSome O0 _ (by omega), O0.frozenAt _⟩
  obtain ⟨W1, hW1⟩ : ∃ W1, W1 = w.drew.setCells g (0 + i * 4) news := ⟨_, rfl⟩
  obtain ⟨O1, C1⟩ := owns_setCells news (0 + i * 4) O0
  rw [← hW1] at O1 C1
  have hcl : ∀ ty, (Builtin.clear_ #[22] ty #[.slice (some ⟨g, (i + (n - (i + 1))) * 4, none⟩) 1 (cap - (i + (n - (i + 1))))]).run Try.prog W1 = .ok (.tuple #[]) (W1.setCells g ((i + (n - (i + 1))) * 4) zs4) :=
    fun ty => run_clear_edge W1 ty g _ _ (fun j hj => owns_isSome O1 _ (by omega)) (fun j _ => O1.frozenAt _)
  obtain ⟨O2, C2⟩ := owns_setCells zs4 ((i + (n - (i + 1))) * 4) O1
  have e1 : i + (n - (i + 1)) = n - 1 := by omega
  have FIN : Hid ((W1.setCells g ((n - 1) * 4) zs4).ownsRow 0 36 4 (.slice (some ⟨g, 0, none⟩) (n - 1) cap) (n - 1) (evals (es.eraseIdx i)) ∧ Ch (fun k => k = g) w (W1.setCells g ((n - 1) * 4) zs4)) := by
    rw [e1] at O2 C2
    refine ⟨?_, ((Ch.of_kept (Kept.refl w).drew).trans C1).trans C2⟩
    have e2 := evals_erase es i (by rw [hl.out]; exact hi) zs4 rfl
    rw [hl.out, ← hnews] at e2
    rw [Nat.zero_add] at O2
    refine ownsRow_pop (n := n - 1) (last := (setL (setL (evals es) (i * 4) news) ((n - 1) * 4) zs4).drop ((n - 1) * 4)) ?_ ?_
    · rw [evals_len, List.length_eraseIdx]; rw [hl.out, if_pos hi]
    · rw [← e2, List.take_append_drop, show n - 1 + 1 = n by omega]; exact O2
  rw [e1] at hcl
  replace hcl : ∀ ty, (Builtin.clear_ #[22] ty #[.slice (some ⟨g, (n - 1) * 4, none⟩) (n - (n - 1)) (cap - (n - 1))]).run Try.prog W1 = .ok (.tuple #[]) (W1.setCells g ((n - 1) * 4) zs4) := fun ty => by rw [show n - (n - 1) = 1 by omega]; exact hcl ty
  have s1 : Hid (news.length = (n - (i + 1)) * 4) := hlen
  have hW : Hid (W1 = w.drew.setCells g (0 + i * 4) news) := hW1
  have hic : i ≤ cap := by omega
  have hjc : i + 1 ≤ cap := by omega
  have hjn : i + 1 ≤ n := by omega
  have z1 : (0 : Int) ≤ (i : Int) + 1 := by omega
  have z2 : (i : Int) + 1 ≤ (n : Int) := by omega
  have q : ((i : Int) == ((i + 1 : Nat) : Int)) = false := by rw [beq_eq_false_iff_ne]; omega
  clear hW1 hlen hnews O0 O O1 O2 C1 C2
  go_enter Try.func32, Try.ntmps32
  go_wp2_with fail
  go_region_law (refine step_append_room rfl (.tmp 22) (.tmp 25) 22 rfl 36 i0 4 Try.underlying22 hi0 hz1 g 0 i cap (by simp [Act.eval, Act.put]) A (n - (i + 1)) (cap - (i + 1)) news (by simp [Act.eval, Act.put]) s1.out hsrc.out s2.out (by omega) s3.out ?_; rw [← hW.out])
  go_wp2
  go_ret
  exact ⟨rfl, FIN.out.1, FIN.out.2⟩
end Go.Proofs.Ythefeijgpgcecaa
