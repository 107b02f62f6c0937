/- A region that draws its order, walked once in a chosen order, whose last operation waits for all that were taken first: behind that one the class of worlds need not be kept (a store into what was read). Nothing of the program. -/
import Derived.Test.YtpdppjngbbkbbaaDoorOrd
namespace Go.Proofs.YtpdppjngbbkbbaaDoor.Ord
open Go

section
variable {P : Program} {ops : Array Oper} {Q : Exit → Act → World → Prop} {S : World → Prop}

/-- Whatever order is picked; the class is kept behind every operation but number z. -/
def held (P : Program) (ops : Array Oper) (Q : Exit → Act → World → Prop) (S : World → Prop) (z : Nat) : Nat → Array Bool → Act → World → Prop
  | 0, listed, a, w => Region.ready .any ops listed = [] ∧ Q .normal a w
  | fuel + 1, listed, a, w => (Region.ready .any ops listed = [] → Q .normal a w) ∧
      ∀ i ∈ Region.ready .any ops listed, wpOp P ops Q i (fun a' w' => (i ≠ z → S w') ∧ held P ops Q S z fuel (listed.setIfInBounds i true) a' w') a w

theorem held_any {z : Nat} : ∀ (fuel : Nat) (listed : Array Bool) (a : Act) (w : World), held P ops Q S z fuel listed a w → wpAny P .any ops Q fuel listed a w
  | 0, _, _, _, h => h
  | fuel + 1, _, _, _, h => ⟨h.1, fun i hi => wpOp_mono (fun a' w' t => held_any fuel _ a' w' t.2) (h.2 i hi)⟩

/-- Operation z waits for operation i. -/
def waitsB (ops : Array Oper) (z i : Nat) : Bool :=
  match ops[z]? with
  | some o => o.after.toList.any fun e => Region.binds .any e && e.on == i
  | none => false

theorem waits_not_ready {z i : Nat} {listed : Array Bool} (hw : waitsB ops z i = true) (hi : i ∈ Region.ready .any ops listed) : z ∉ Region.ready .any ops listed := by
  intro hz
  obtain ⟨_, o, ho, hall⟩ := mem_ready.1 hz
  unfold waitsB at hw
  rw [ho] at hw
  simp only [List.any_eq_true, Bool.and_eq_true, beq_iff_eq] at hw
  obtain ⟨e, he, hb, hon⟩ := hw
  have h1 := hall e (by simpa using he) hb
  have h0 := (mem_ready.1 hi).1
  rw [hon] at h1
  rcases Nat.lt_or_ge i listed.size with t | t
  · simp [t] at h0 h1; rw [h0] at h1; cases h1
  · simp [Array.getElem?_eq_none t] at h1

theorem held_first {z i : Nat} {oi : Oper} {v : Value} (hz : waitsB ops z i = true) (hi : ops[i]? = some oi) (hs : Region.noSelect ops = true) (hQ : ∀ c a w, Q (.panic c) (Act.put a oi.dst v) w → Q (.panic c) a w) :
    ∀ (fuel : Nat) (listed : Array Bool) (a : Act) (w : World),
      (∀ j oj, ops[j]? = some oj → j ≠ i → listed.getD j true = false → (∀ e ∈ oj.after, Region.binds .any e = true → e.on ≠ i) → oi.apart ops oj = true) →
      i ∈ Region.ready .any ops listed → YieldsIf P ops S oi v a → S w →
      held P ops Q S z fuel (listed.setIfInBounds i true) (a.put oi.dst v) w → held P ops Q S z (fuel + 1) listed a w := by
  intro fuel
  induction fuel with
  | zero =>
    intro listed a w _ hr hy hS H
    refine ⟨fun t => absurd hr (by rw [t]; exact List.not_mem_nil), fun j hj => ?_⟩
    by_cases e : j = i
    · rw [e]; exact hy.wpOp hi hS ⟨fun _ => hS, H⟩
    · exact absurd (ready_mono hj e) (by rw [H.1]; exact List.not_mem_nil)
  | succ fuel ih =>
    intro listed a w hfree hr hy hS H
    refine ⟨fun t => absurd hr (by rw [t]; exact List.not_mem_nil), fun j hj => ?_⟩
    by_cases e : j = i
    · rw [e]; exact hy.wpOp hi hS ⟨fun _ => hS, H⟩
    · have hjz : j ≠ z := fun t => waits_not_ready hz hr (t ▸ hj)
      obtain ⟨hun, oj, hoj, hall⟩ := mem_ready.1 hj
      have hno : ∀ e ∈ oj.after, Region.binds .any e = true → e.on ≠ i := fun x hx hb t => by
        have h1 := hall x hx hb
        have h0 := (mem_ready.1 hr).1
        rw [t] at h1
        rcases Nat.lt_or_ge i listed.size with l | l
        · simp [l] at h0 h1; rw [h0] at h1; cases h1
        · simp [Array.getElem?_eq_none l] at h1
      have h2 := wpOp_putIf hoj (hfree j oj hoj e hun hno) (fun cs b => Region.noSelect_spec hs i oi cs b hi) (fun cs b => Region.noSelect_spec hs j oj cs b hoj) hQ hy (H.2 j (ready_mono hj e))
      refine wpOp_mono (fun a' w' t => ⟨t.2.1, ih _ a' w' (fun k ok hk hki hku hkn => hfree k ok hk hki ?_ hkn) (ready_mono hr (Ne.symm e)) t.1 (t.2.1 hjz) ?_⟩) h2
      · by_cases hjk : j = k
        · rw [← hjk]; exact hun
        · rw [getD_set_ne true hjk] at hku; exact hku
      · rw [Array.setIfInBounds_comm _ _ e]
        exact t.2.2

/-- One operation of the walk; kind 3: the last one, behind which the class need not be kept. -/
def bodyZ (P : Program) (ops : Array Oper) (Q : Exit → Act → World → Prop) (S : World → Prop) (kind : Nat) (o : Oper) (K : Act → World → Prop) (a : Act) (w : World) : Prop :=
  match kind with
  | 3 => if Region.wanted o (yielded ops a.tmps) then o.wp P a w K Q else K (a.put o.dst undef) w
  | k => body P ops Q S k o K a w

def walkZ (P : Program) (ops : Array Oper) (Q : Exit → Act → World → Prop) (S : World → Prop) : List (Nat × Nat) → Act → World → Prop
  | [], a, w => Q .normal a w
  | (i, kind) :: rest, a, w => ∃ o, ops[i]? = some o ∧ bodyZ P ops Q S kind o (walkZ P ops Q S rest) a w

def orderZ (ops : Array Oper) (z : Nat) : List (Nat × Nat) → Array Bool → Bool
  | [], listed => (Region.ready .any ops listed).isEmpty
  | (i, kind) :: rest, listed => (Region.ready .any ops listed).contains i && (if kind ≤ 1 then Region.free .any ops listed i && waitsB ops z i else Region.ready .any ops listed == [i]) && (if kind == 3 then i == z && rest.isEmpty else true) && orderZ ops z rest (listed.setIfInBounds i true)

theorem held_of_walkZ {z : Nat} (hs : Region.noSelect ops = true) (hQ : ∀ c a d v w, Q (.panic c) (Act.put a d v) w → Q (.panic c) a w) : ∀ (l : List (Nat × Nat)) (listed : Array Bool) (a : Act) (w : World),
    orderZ ops z l listed = true → (l = [] ∨ S w) → walkZ P ops Q S l a w → held P ops Q S z l.length listed a w
  | [], listed, a, w, hB, _, h => by
    simp only [orderZ, List.isEmpty_iff] at hB
    exact ⟨hB, h⟩
  | (i, kind) :: rest, listed, a, w, hB, hS0, h => by
    have hS : S w := hS0.resolve_left (by simp)
    simp only [orderZ, Bool.and_eq_true] at hB
    obtain ⟨⟨⟨hr, hf⟩, h3⟩, hB'⟩ := hB
    have hr' : i ∈ Region.ready .any ops listed := by simpa using hr
    obtain ⟨o, ho, hb⟩ := h
    by_cases hk : kind ≤ 1
    · rw [if_pos hk, Bool.and_eq_true] at hf
      have hb' : body P ops Q S kind o (walkZ P ops Q S rest) a w := by
        match kind, hk, hb with
        | 0, _, hb => exact hb
        | 1, _, hb => exact hb
      obtain ⟨v, hy, hK⟩ := body_yields hk hb'
      exact held_first hf.2 ho hs (fun c a w t => hQ c a _ _ w t) rest.length listed a w (Region.free_spec ho hf.1) hr' hy hS (held_of_walkZ hs hQ rest _ _ _ hB' (.inr hS) hK)
    · rw [if_neg hk] at hf
      have hf' : Region.ready .any ops listed = [i] := by simpa using hf
      refine ⟨fun t => absurd hr' (by rw [t]; exact List.not_mem_nil), fun j hj => ?_⟩
      rw [hf'] at hj
      obtain rfl : j = i := by simpa using hj
      unfold wpOp
      simp only [ho]
      by_cases k3 : kind = 3
      · subst k3
        simp only [beq_self_eq_true, if_true, Bool.and_eq_true, beq_iff_eq, List.isEmpty_iff] at h3
        obtain ⟨rfl, rfl⟩ := h3
        have hb3 : if Region.wanted o (yielded ops a.tmps) then o.wp P a w (walkZ P ops Q S []) Q else walkZ P ops Q S [] (a.put o.dst undef) w := hb
        split
        · rename_i hw
          simp only [hw, if_true] at hb3
          exact .inl (Oper.wp_mono (fun a' w' t => ⟨fun n => absurd rfl n, held_of_walkZ hs hQ [] _ _ _ hB' (.inl rfl) t⟩) hb3)
        · rename_i hw
          simp only [hw] at hb3
          exact ⟨fun n => absurd rfl n, held_of_walkZ hs hQ [] _ _ _ hB' (.inl rfl) hb3⟩
      · have hb2 : if Region.wanted o (yielded ops a.tmps) then o.wp P a w (fun a' w' => S w' ∧ walkZ P ops Q S rest a' w') Q else walkZ P ops Q S rest (a.put o.dst undef) w := by
          match kind, hk, k3, hb with
          | 0, hk, _, _ => exact absurd (by omega) hk
          | 1, hk, _, _ => exact absurd (by omega) hk
          | 2, _, _, hb => exact hb
          | 3, _, k3, _ => exact absurd rfl k3
          | _ + 4, _, _, hb => exact hb
        split
        · rename_i hw
          simp only [hw, if_true] at hb2
          exact .inl (Oper.wp_mono (fun a' w' t => ⟨fun _ => t.1, held_of_walkZ hs hQ rest _ _ _ hB' (.inr t.1) t.2⟩) hb2)
        · rename_i hw
          simp only [hw] at hb2
          exact ⟨fun _ => hS, held_of_walkZ hs hQ rest _ _ _ hB' (.inr hS) hb2⟩

/-- The region, walked in the chosen order; z: its last operation. -/
theorem regionZ {id : Nat} {l : List Oper} {a : Act} {w : World} (z : Nat) (σ : List (Nat × Nat)) (S : World → Prop) (hm : P.follows .mixedOrders = true) (hs : Region.noSelect l.toArray = true) (hlen : (σ.length == l.toArray.size) = true) (hB : orderZ l.toArray z σ (Array.replicate l.toArray.size false) = true)
    (hQ : ∀ c a d v w, Q (.panic c) (Act.put a d v) w → Q (.panic c) a w) (hS : S (w.drewN 1)) (h : walkZ P l.toArray Q S σ a (w.drewN 1)) : (Code.region id l.toArray true).wp P Q a w := by
  refine wp_region_any hm (held_any _ _ _ _ (S := S) (z := z) ?_)
  have t := held_of_walkZ (z := z) hs hQ σ (Array.replicate l.toArray.size false) a (w.drewN 1) hB (.inr hS) h
  rw [beq_iff_eq.1 hlen] at t
  exact t

theorem stepZ {i kind : Nat} {o : Oper} {rest : List (Nat × Nat)} {a : Act} {w : World} (ho : ops[i]? = some o) (h : ∀ K : Act → World → Prop, (∀ a w, walkZ P ops Q S rest a w → K a w) → bodyZ P ops Q S kind o K a w) : walkZ P ops Q S ((i, kind) :: rest) a w :=
  ⟨o, ho, h _ fun _ _ t => t⟩
theorem doneZ {a : Act} {w : World} (h : Q .normal a w) : walkZ P ops Q S [] a w := h
end
end Go.Proofs.YtpdppjngbbkbbaaDoor.Ord
