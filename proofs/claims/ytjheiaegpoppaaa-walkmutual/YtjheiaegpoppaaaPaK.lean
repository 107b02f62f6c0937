/- Strong: the nodes sorted; the walk. -/
import Derived.Test.YtjheiaegpoppaaaPaJ
namespace Go.Proofs.Ytjheiaegpoppaaa
open Go.RowKit

/-- The nodes, the one that was left last first. -/
structure Falling (n : Nat) (q : Nat → Int) (ρl : List Nat) : Prop where
  len : ρl.length = n
  lt : ∀ r ∈ ρl, r < n
  cov : ∀ v, v < n → ∃ j, j < n ∧ ρl.getD j 0 = v
  ord : ∀ i j, i < j → j < n → q (ρl.getD j 0) ≤ q (ρl.getD i 0)

theorem extract_all {α : Type} (d : Array α) (k : Nat) (h : d.size = k) : d.extract 0 k = d := by subst h; simp

set_option maxRecDepth 100000 in
set_option maxHeartbeats 2000000 in
theorem sortN_calls (n : Nat) (hn0 : 0 < n) (hn : n ≤ 1024) (g bx gq : Nat) (q : Nat → Int) (w : World) (I : IntsAt w g n (fun v => (v : Int))) (hb : w.cell? ⟨bx, 0, none⟩ = some (.slice (some ⟨gq, 0, none⟩) n n)) (hQ : IntsAt w gq n q) (hbd : Hid (∀ v, v < n → 0 ≤ q v ∧ q v < 4096)) (hbx : ¬ bx = g) (hgq : ¬ gq = g) :
    Calls Try.prog 37 #[.slice (some ⟨g, 0, none⟩) n n, .func (.func 38) #[] #[.pointer (some ⟨bx, 0, none⟩)]] w fun r w' => r = .returned (.tuple #[]) ∧ ∃ ρl, Falling n q ρl ∧ JRow w' (some ⟨g, 0, none⟩) n n (qz ρl) ∧ Ch (fun k => k = g) w w' := by
  haveI : Inhabited (Fin n) := ⟨⟨0, hn0⟩⟩
  let enc : Fin n → Value := fun x => .int .i64 (x.val : Int)
  let cf : Fin n → Fin n → Int := fun x y => q y.val - q x.val
  let d : Array (Fin n) := Array.ofFn (fun i : Fin n => i)
  have hds : d.size = n := by simp [d]
  have hdg : ∀ j (hj : j < n), d[j]! = ⟨j, hj⟩ := fun j hj => by
    rw [getElem!_pos d j (by rw [hds]; exact hj)]
    simp [d]
  have hH : Sort.Holds enc w g 0 d := fun j hj => by
    rw [hds] at hj
    rw [hdg j hj, Nat.zero_add]
    exact ⟨I.cell hj, World.rowIs.frozen I j⟩
  have lt : ∀ x y : Fin n, ltOf cf x y = decide (q y.val < q x.val) := fun x y => by
    show decide (q y.val - q x.val < 0) = _
    by_cases c : q y.val < q x.val
    · rw [decide_eq_true c, decide_eq_true (by omega)]
    · rw [decide_eq_false c, decide_eq_false (by omega)]
  have hO : Sort.SWO (ltOf cf) := by
    refine ⟨fun x => ?_, fun x y z h1 h2 => ?_, fun x y z h1 h2 => ?_⟩
    · rw [lt]; simp
    · rw [lt] at *; simp at *; omega
    · rw [lt] at *; simp at *; omega
  have eg : ∀ args w, (callFunc 38 args).run Try.prog w = .ok (.enter 38 args) w := enters_of Try.func38 (by kernel_rfl) rfl
  have hcr : CmpReads Try.prog 38 #[.pointer (some ⟨bx, 0, none⟩)] enc cf g 0 d.size w := fun m os dk _ x y => by
    have C := Ch.of_sort enc w g 0 m dk os
    exact scl_calls _ bx gq n q (C.cell hb hbx) (hQ.ch C hgq) hbd x.val y.val x.isLt y.isLt
  have hS := Any.slices_SortFunc sortL enc (fun _ => rfl) cf hO 38 #[.pointer (some ⟨bx, 0, none⟩)] g 0 n d w eg hcr.lays hH I.lt (by rw [hds]; omega)
  rw [hds] at hS
  change Calls Try.prog 37 _ _ _ at hS
  refine hS.mono ?_
  rintro e w' ⟨rfl, d', m, os, hp, hs, rfl⟩
  have hs' : d'.size = n := by rw [hp.1, hds]
  have HH : Sort.Holds enc (sortWorld enc w g 0 m d' os) g 0 d' := by
    refine Sort.holds_grow enc _ os g 0 d' ?_ (Sort.holds_putRow enc _ g 0 d d' (Sort.holds_ahead enc w m g 0 d hH) (by rw [hs', hds]))
    rw [Sort.size_putRow, Sort.heap_ahead]
    exact I.lt
  have hget : ∀ j (hj : j < n), (d'.toList.map fun x : Fin n => x.val).getD j 0 = (d'[j]!).val := fun j hj => by
    have hj2 : j < d'.size := by omega
    rw [getElem!_pos d' j hj2]
    simp [List.getD, hj2]
  refine ⟨rfl, d'.toList.map fun x => x.val, ⟨by simp [hs'], fun r hr => ?_, fun v hv => ?_, fun i j hij hj => ?_⟩, ⟨by simp [qz, hs'], Nat.le_refl _, by unfold maxLen; omega, fun _ => ⟨g, 0, rfl, fun i hi => ?_⟩⟩, Ch.of_sort enc w g 0 m d' os⟩
  · obtain ⟨x, -, rfl⟩ := List.mem_map.1 hr
    exact x.isLt
  · have hmem : (⟨v, hv⟩ : Fin n) ∈ (d'.extract 0 n).toList := by
      refine hp.2.2.symm.mem_iff.1 ?_
      rw [extract_all d n hds]
      simp [d]
    rw [extract_all d' n hs'] at hmem
    obtain ⟨j, hj, e⟩ := List.getElem_of_mem hmem
    have hj2 : j < n := by simp at hj; omega
    refine ⟨j, hj2, ?_⟩
    rw [hget j hj2, getElem!_pos d' j (by omega)]
    have : d'[j] = (⟨v, hv⟩ : Fin n) := by simpa using e
    rw [this]
  · have := hs i j (Nat.zero_le _) hij hj
    rw [lt] at this
    simp at this
    rw [hget i (by omega), hget j hj]
    exact this
  · have := (HH i (by omega)).1
    rw [this]
    show some (Value.int .i64 ((d'[i]!).val : Int)) = _
    rw [qz_get _ _ (by simp [hs']; exact hi), hget i hi]
end Go.Proofs.Ytjheiaegpoppaaa
