/- A region that draws its order, walked once in a chosen order: operations that yield in every world of a class may be taken first; one that turns the world is carried out where it is the only one that may come up. Nothing of the program. -/
import Derived.OrdersHeld
import Derived.Tactics
import Derived.Tactics2
import Derived.KernelRfl
import Derived.Deep.Draws
namespace Go.Proofs.YtpdppjngbbkbbaaDoor.Ord
open Go

section
variable {P : Program} {ops : Array Oper} {Q : Exit → Act → World → Prop} {S : World → Prop}

/-- One operation of the walk. Kind 0: it yields in whatever world; kind 1: in every world of the class; else: it is carried out in the world at hand, and leaves one of the class. -/
def body (P : Program) (ops : Array Oper) (Q : Exit → Act → World → Prop) (S : World → Prop) (kind : Nat) (o : Oper) (K : Act → World → Prop) (a : Act) (w : World) : Prop :=
  match kind with
  | 0 => if Region.wanted o (yielded ops a.tmps) then ∃ v, (∀ w', (execOp a.eval o).run P w' = .ok (.value v) w') ∧ K (a.put o.dst v) w else K (a.put o.dst undef) w
  | 1 => if Region.wanted o (yielded ops a.tmps) then ∃ v, (∀ w', S w' → (execOp a.eval o).run P w' = .ok (.value v) w') ∧ K (a.put o.dst v) w else K (a.put o.dst undef) w
  | _ => if Region.wanted o (yielded ops a.tmps) then o.wp P a w (fun a' w' => S w' ∧ K a' w') Q else K (a.put o.dst undef) w

/-- The walk in a chosen order: the operations' numbers and kinds. -/
def walk (P : Program) (ops : Array Oper) (Q : Exit → Act → World → Prop) (S : World → Prop) : List (Nat × Nat) → Act → World → Prop
  | [], a, w => Q .normal a w
  | (i, kind) :: rest, a, w => ∃ o, ops[i]? = some o ∧ body P ops Q S kind o (walk P ops Q S rest) a w

/-- May the operations come up in this order, each taken first or alone? -/
def orderB (ops : Array Oper) : List (Nat × Nat) → Array Bool → Bool
  | [], listed => (Region.ready .any ops listed).isEmpty
  | (i, kind) :: rest, listed => (Region.ready .any ops listed).contains i && (if kind ≤ 1 then Region.free .any ops listed i else Region.ready .any ops listed == [i]) && orderB ops rest (listed.setIfInBounds i true)

theorem body_yields {kind : Nat} {o : Oper} {K : Act → World → Prop} {a : Act} {w : World} (hk : kind ≤ 1) (h : body P ops Q S kind o K a w) : ∃ v, YieldsIf P ops S o v a ∧ K (a.put o.dst v) w := by
  match kind, hk with
  | 0, _ =>
    simp only [body] at h
    split at h
    · rename_i hw
      obtain ⟨v, h1, h2⟩ := h
      exact ⟨v, .inl ⟨hw, fun w' _ => h1 w'⟩, h2⟩
    · rename_i hw
      exact ⟨undef, .inr ⟨by simpa using hw, rfl⟩, h⟩
  | 1, _ =>
    simp only [body] at h
    split at h
    · rename_i hw
      obtain ⟨v, h1, h2⟩ := h
      exact ⟨v, .inl ⟨hw, h1⟩, h2⟩
    · rename_i hw
      exact ⟨undef, .inr ⟨by simpa using hw, rfl⟩, h⟩

theorem held_of_walk (hs : Region.noSelect ops = true) (hQ : ∀ c a d v w, Q (.panic c) (Act.put a d v) w → Q (.panic c) a w) : ∀ (l : List (Nat × Nat)) (listed : Array Bool) (a : Act) (w : World),
    orderB ops l listed = true → S w → walk P ops Q S l a w → wpAnyH P .any ops Q S l.length listed a w
  | [], listed, a, w, hB, _, h => by
    simp only [orderB, List.isEmpty_iff] at hB
    exact ⟨hB, h⟩
  | (i, kind) :: rest, listed, a, w, hB, hS, h => by
    simp only [orderB, Bool.and_eq_true] at hB
    obtain ⟨⟨hr, hf⟩, hB'⟩ := hB
    have hr' : i ∈ Region.ready .any ops listed := by simpa using hr
    obtain ⟨o, ho, hb⟩ := h
    by_cases hk : kind ≤ 1
    · rw [if_pos hk] at hf
      obtain ⟨v, hy, hK⟩ := body_yields hk hb
      exact wpAnyH_first ho (Region.noSelect_spec hs) (fun c a w h => hQ c a _ _ w h) rest.length listed a w (Region.free_spec ho hf) hr' hy hS (held_of_walk hs hQ rest _ _ _ hB' hS hK)
    · rw [if_neg hk] at hf
      have hf' : Region.ready .any ops listed = [i] := by simpa using hf
      refine ⟨fun h0 => (by rw [h0] at hr'; cases hr'), fun j hj => ?_⟩
      rw [hf'] at hj
      obtain rfl : j = i := by simpa using hj
      have hb' : if Region.wanted o (yielded ops a.tmps) then o.wp P a w (fun a' w' => S w' ∧ walk P ops Q S rest a' w') Q else walk P ops Q S rest (a.put o.dst undef) w := by
        match kind, hk, hb with
        | 0, hk, _ => exact absurd (by omega) hk
        | 1, hk, _ => exact absurd (by omega) hk
        | _ + 2, _, hb => exact hb
      unfold wpOp
      simp only [ho]
      split
      · rename_i hw
        simp only [hw, if_true] at hb'
        exact .inl (Oper.wp_mono (fun a' w' h' => ⟨h'.1, held_of_walk hs hQ rest _ _ _ hB' h'.1 h'.2⟩) hb')
      · rename_i hw
        simp only [hw] at hb'
        exact ⟨hS, held_of_walk hs hQ rest _ _ _ hB' hS hb'⟩

/-- The region, walked in the chosen order. -/
theorem region {id : Nat} {l : List Oper} {a : Act} {w : World} (σ : List (Nat × Nat)) (S : World → Prop) (hm : P.follows .mixedOrders = true) (hs : Region.noSelect l.toArray = true) (hlen : (σ.length == l.toArray.size) = true) (hB : orderB l.toArray σ (Array.replicate l.toArray.size false) = true)
    (hQ : ∀ c a d v w, Q (.panic c) (Act.put a d v) w → Q (.panic c) a w) (hS : S (w.drewN 1)) (h : walk P l.toArray Q S σ a (w.drewN 1)) : (Code.region id l.toArray true).wp P Q a w := by
  refine wp_region_any hm (wpAny_of_held _ _ _ _ (S := S) ?_)
  have := held_of_walk hs hQ σ (Array.replicate l.toArray.size false) a (w.drewN 1) hB hS h
  rw [beq_iff_eq.1 hlen] at this
  exact this

/-- One step, what follows behind a letter. -/
theorem step {i kind : Nat} {o : Oper} {rest : List (Nat × Nat)} {a : Act} {w : World} (ho : ops[i]? = some o) (h : ∀ K : Act → World → Prop, (∀ a w, walk P ops Q S rest a w → K a w) → body P ops Q S kind o K a w) : walk P ops Q S ((i, kind) :: rest) a w :=
  ⟨o, ho, h _ fun _ _ h => h⟩
theorem done {a : Act} {w : World} (h : Q .normal a w) : walk P ops Q S [] a w := h
end
end Go.Proofs.YtpdppjngbbkbbaaDoor.Ord
