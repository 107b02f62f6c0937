/- The gadget's largest matchings: what trying all finds, and how large it is. -/
import Derived.Test.YtpdppjngbbkbbaaDoorVmC
namespace Go.Proofs.YtpdppjngbbkbbaaDoor
open Go.RowKit

def awayE (e x : Ed) : Bool := x.f != e.f && x.t != e.f && x.f != e.t && x.t != e.t
theorem awayE_iff {e x : Ed} : awayE e x = true ↔ ((x.f ≠ e.f ∧ x.t ≠ e.f) ∧ x.f ≠ e.t) ∧ x.t ≠ e.t := by
  unfold awayE
  simp [bne_iff_ne]
/-- How many edges a largest matching has, by trying all. -/
def mostN : List Ed → Nat
  | [] => 0
  | e :: r => max (mostN r) (if e.f = e.t then 0 else 1 + mostN (r.filter (awayE e)))
  termination_by es => es.length
  decreasing_by
    · simp
    · have := List.length_filter_le (awayE e) r; simp; omega
theorem mostN_nil : mostN [] = 0 := by rw [mostN]
theorem mostN_cons (e : Ed) (r : List Ed) : mostN (e :: r) = max (mostN r) (if e.f = e.t then 0 else 1 + mostN (r.filter (awayE e))) := by rw [mostN]

/-- Pairs that are edges. -/
def InE (es : List Ed) (P : Pairs) : Prop := ∀ p ∈ P, ∃ e ∈ es, p = (e.f, e.t)
def One (P : Pairs) : Prop := ∀ v : Nat, cntP P v ≤ 1
theorem cntP_append (P Q : Pairs) (v : Nat) : cntP (P ++ Q) v = cntP P v + cntP Q v := by
  induction P with
  | nil => simp [cntP]
  | cons p P ih => rw [List.cons_append, cntP_cons, cntP_cons, ih]; omega
theorem cntP_pos (P : Pairs) (v : Nat) : 0 ≤ cntP P v := by
  induction P with
  | nil => exact Int.le_refl _
  | cons p P ih => rw [cntP_cons]; split <;> split <;> omega
theorem cntP_none {P : Pairs} {v : Nat} (h : ∀ p ∈ P, p.1 ≠ (v : Int) ∧ p.2 ≠ (v : Int)) : cntP P v = 0 := by
  induction P with
  | nil => rfl
  | cons p P ih =>
    rw [cntP_cons, ih fun q hq => h q (List.mem_cons_of_mem _ hq), if_neg (h p List.mem_cons_self).1, if_neg (h p List.mem_cons_self).2]
    rfl
theorem cntP_mem {P : Pairs} {p : Int × Int} (hp : p ∈ P) {v : Nat} (h : p.1 = (v : Int) ∨ p.2 = (v : Int)) : 1 ≤ cntP P v := by
  induction P with
  | nil => cases hp
  | cons q P ih =>
    have := cntP_pos P v
    rw [cntP_cons]
    rcases List.mem_cons.1 hp with rfl | hp
    · rcases h with h | h <;> rw [if_pos h] <;> split <;> omega
    · have := ih hp
      split <;> split <;> omega

theorem cntP_hit {p : Int × Int} {L : Pairs} {v : Nat} (h : p.1 = (v : Int) ∨ p.2 = (v : Int)) : cntP L v + 1 ≤ cntP (p :: L) v := by
  rw [cntP_cons]
  rcases h with h | h <;> rw [if_pos h] <;> split <;> omega
theorem cntP_rest (p : Int × Int) (L : Pairs) (v : Nat) : cntP L v ≤ cntP (p :: L) v := by
  rw [cntP_cons]
  split <;> split <;> omega

/-- No matching is larger than what trying all finds. -/
theorem most_ge : ∀ (k : Nat) (es : List Ed), es.length ≤ k → (∀ e ∈ es, 0 ≤ e.f ∧ 0 ≤ e.t) → ∀ P, InE es P → One P → P.length ≤ mostN es := by
  intro k
  induction k with
  | zero =>
    intro es hk _ P hP _
    obtain rfl : es = [] := List.length_eq_zero_iff.1 (by omega)
    cases P with
    | nil => simp
    | cons p P => obtain ⟨e, he, -⟩ := hP p List.mem_cons_self; cases he
  | succ k ih =>
    intro es hk hpos P hP h1
    cases es with
    | nil =>
      cases P with
      | nil => simp
      | cons p P => obtain ⟨e, he, -⟩ := hP p List.mem_cons_self; cases he
    | cons e r =>
      rw [mostN_cons]
      have hr : r.length ≤ k := by simp at hk; omega
      by_cases hp : (e.f, e.t) ∈ P
      · obtain ⟨A, B, rfl⟩ := List.append_of_mem hp
        obtain ⟨p0, p1⟩ := hpos e List.mem_cons_self
        obtain ⟨u, hu⟩ : ∃ u : Nat, e.f = (u : Int) := ⟨e.f.toNat, by omega⟩
        obtain ⟨v, hv⟩ : ∃ v : Nat, e.t = (v : Int) := ⟨e.t.toNat, by omega⟩
        have cu := h1 u
        have cv := h1 v
        have au := cntP_pos A u
        have bu := cntP_pos B u
        have av := cntP_pos A v
        have bv := cntP_pos B v
        rw [cntP_append, cntP_cons] at cu cv
        have hne : ¬ e.f = e.t := by
          intro t
          rw [if_pos hu, if_pos (show e.t = (u : Int) by omega)] at cu
          omega
        have tu : ∀ p ∈ A ++ B, p.1 ≠ (u : Int) ∧ p.2 ≠ (u : Int) := by
          intro p hp'
          rw [if_pos hu, if_neg (show ¬ e.t = (u : Int) by omega)] at cu
          have : ¬ (p.1 = (u : Int) ∨ p.2 = (u : Int)) := fun t => by
            have := cntP_mem hp' t
            rw [cntP_append] at this
            omega
          exact ⟨fun t => this (.inl t), fun t => this (.inr t)⟩
        have tv : ∀ p ∈ A ++ B, p.1 ≠ (v : Int) ∧ p.2 ≠ (v : Int) := by
          intro p hp'
          rw [if_neg (show ¬ e.f = (v : Int) by omega), if_pos hv] at cv
          have : ¬ (p.1 = (v : Int) ∨ p.2 = (v : Int)) := fun t => by
            have := cntP_mem hp' t
            rw [cntP_append] at this
            omega
          exact ⟨fun t => this (.inl t), fun t => this (.inr t)⟩
        have lf := List.length_filter_le (awayE e) r
        have sub : ∀ p ∈ A ++ B, p ∈ A ++ (e.f, e.t) :: B := fun p hp' => by
          rcases List.mem_append.1 hp' with t | t
          · exact List.mem_append_left _ t
          · exact List.mem_append_right _ (List.mem_cons_of_mem _ t)
        have L := ih (r.filter (awayE e)) (by omega) (fun x hx => hpos x (List.mem_cons_of_mem _ (List.mem_filter.1 hx).1)) (A ++ B) (fun p hp' => by
          obtain ⟨x, hx, rfl⟩ := hP p (sub p hp')
          have a := tu _ hp'
          have b := tv _ hp'
          simp only at a b
          rcases List.mem_cons.1 hx with rfl | hx
          · exact absurd hu a.1
          · exact ⟨x, List.mem_filter.2 ⟨hx, awayE_iff.2 ⟨⟨⟨by omega, by omega⟩, by omega⟩, by omega⟩⟩, rfl⟩) (fun w => by
          have := h1 w
          rw [cntP_append, cntP_cons] at this
          rw [cntP_append]
          split at this <;> split at this <;> omega)
        rw [if_neg hne]
        rw [List.length_append] at L
        rw [List.length_append, List.length_cons]
        omega
      · have L := ih r hr (fun x hx => hpos x (List.mem_cons_of_mem _ hx)) P (fun p hp' => by
          obtain ⟨x, hx, rfl⟩ := hP p hp'
          rcases List.mem_cons.1 hx with rfl | hx
          · exact absurd hp' hp
          · exact ⟨x, hx, rfl⟩) h1
        omega

/-- What trying all finds is a matching. -/
theorem most_is : ∀ (k : Nat) (es : List Ed), es.length ≤ k → ∃ P, InE es P ∧ One P ∧ P.length = mostN es := by
  intro k
  induction k with
  | zero =>
    intro es hk
    obtain rfl : es = [] := List.length_eq_zero_iff.1 (by omega)
    exact ⟨[], fun p hp => (by cases hp), fun v => by simp [cntP], by rw [mostN_nil]; rfl⟩
  | succ k ih =>
    intro es hk
    cases es with
    | nil => exact ⟨[], fun p hp => (by cases hp), fun v => by simp [cntP], by rw [mostN_nil]; rfl⟩
    | cons e r =>
      have hr : r.length ≤ k := by simp at hk; omega
      rw [mostN_cons]
      have lf := List.length_filter_le (awayE e) r
      by_cases hb : (if e.f = e.t then 0 else 1 + mostN (r.filter (awayE e))) ≤ mostN r
      · obtain ⟨P, h1, h2, h3⟩ := ih r hr
        exact ⟨P, fun p hp => by obtain ⟨x, hx, t⟩ := h1 p hp; exact ⟨x, List.mem_cons_of_mem _ hx, t⟩, h2, by omega⟩
      · by_cases hl : e.f = e.t
        · rw [if_pos hl] at hb; omega
        rw [if_neg hl] at hb ⊢
        obtain ⟨P, h1, h2, h3⟩ := ih (r.filter (awayE e)) (by omega)
        refine ⟨(e.f, e.t) :: P, fun p hp => ?_, fun v => ?_, by rw [List.length_cons]; omega⟩
        · rcases List.mem_cons.1 hp with rfl | hp
          · exact ⟨e, List.mem_cons_self, rfl⟩
          · obtain ⟨x, hx, t⟩ := h1 p hp
            exact ⟨x, List.mem_cons_of_mem _ (List.mem_filter.1 hx).1, t⟩
        · have c := h2 v
          have z : (e.f = (v : Int) ∨ e.t = (v : Int)) → cntP P v = 0 := fun t => cntP_none fun p hp => by
            obtain ⟨x, hx, rfl⟩ := h1 p hp
            have a := awayE_iff.1 (List.mem_filter.1 hx).2
            simp only
            omega
          rw [cntP_cons]
          simp only
          split
          · rename_i t
            rw [z (.inl t), if_neg (by omega)]
            omega
          · split
            · rename_i t
              rw [z (.inr t)]
              omega
            · omega

theorem sm_hit {f : Nat → Int} (h0 : ∀ i, 0 ≤ f i) {c k : Nat} (hc : c < k) (h : 1 ≤ f c) : 1 ≤ sm f k := by
  have p : ∀ k, 0 ≤ sm f k := fun k => by
    induction k with
    | zero => exact Int.le_refl _
    | succ k ih => rw [sm_succ]; have := h0 k; omega
  induction k with
  | zero => omega
  | succ k ih =>
    rw [sm_succ]
    have := h0 k
    by_cases e : c = k
    · subst e; have := p c; omega
    · have := ih (by omega); omega
theorem upTo_tells {a x : Int} {c : Nat} {e : Ed} (h : e ∈ upTo a x c) : ∃ j : Nat, j < c ∧ e.f = a + (j : Int) ∧ e.t = x := by
  induction c with
  | zero => simp [upTo] at h
  | succ c ih =>
    simp only [upTo, List.mem_append, List.mem_singleton] at h
    rcases h with h | rfl
    · obtain ⟨j, h1, h2⟩ := ih h; exact ⟨j, by omega, h2⟩
    · exact ⟨c, by omega, rfl, rfl⟩
theorem dnTo_tells {a x : Int} {c : Nat} {e : Ed} (h : e ∈ dnTo x a c) : ∃ j : Nat, j < c ∧ e.f = x ∧ e.t = a + (j : Int) := by
  induction c with
  | zero => simp [dnTo] at h
  | succ c ih =>
    simp only [dnTo, List.mem_append, List.mem_singleton] at h
    rcases h with h | rfl
    · obtain ⟨j, h1, h2⟩ := ih h; exact ⟨j, by omega, h2⟩
    · exact ⟨c, by omega, rfl, rfl⟩
theorem cntP_filter (P : Pairs) (q : Int × Int → Bool) (v : Nat) : cntP P v = cntP (P.filter q) v + cntP (P.filter fun p => !q p) v := by
  induction P with
  | nil => simp [cntP]
  | cons p P ih =>
    cases h : q p with
    | true => rw [List.filter_cons_of_pos h, List.filter_cons_of_neg (by simp [h]), cntP_cons, cntP_cons, ih]; omega
    | false => rw [List.filter_cons_of_neg (by simp [h]), List.filter_cons_of_pos (by simp [h]), cntP_cons, cntP_cons, ih]; omega
theorem len_filter (P : Pairs) (q : Int × Int → Bool) : P.length = (P.filter q).length + (P.filter fun p => !q p).length := by
  induction P with
  | nil => rfl
  | cons p P ih =>
    cases h : q p with
    | true => rw [List.filter_cons_of_pos h, List.filter_cons_of_neg (by simp [h]), List.length_cons, List.length_cons, ih]; omega
    | false => rw [List.filter_cons_of_neg (by simp [h]), List.filter_cons_of_pos (by simp [h]), List.length_cons, List.length_cons, ih]; omega

/-- A matching of the gadget tells edges that can be taken. -/
theorem gad_tells {cp : Nat → Int} {N n : Nat} {es : List Ed} (hcp : CpOk cp N) (he : EndsIn es N n) : ∀ k, k ≤ n → ∀ P, InE (gadTo cp N es k) P → One P →
    ∃ I : Nat → Bool, (∀ j, I j = true → j < k ∧ lp es j = false) ∧ (P.length : Int) ≤ nlTo es k + sm (fun j => if I j then 1 else 0) k ∧ ∀ v, v < N → useTo es I k v ≤ sm (fun c => cntP P ((sm cp v).toNat + c)) (cp v).toNat := by
  intro k
  induction k with
  | zero =>
    intro _ P hP _
    cases P with
    | nil => exact ⟨fun _ => false, fun j h => (by cases h), by simp [nlTo, sm], fun v _ => by
        have : sm (fun c => cntP [] ((sm cp v).toNat + c)) (cp v).toNat = 0 := by
          rw [show (fun c => cntP [] ((sm cp v).toNat + c)) = fun _ => (0 : Int) from rfl]
          induction (cp v).toNat with
          | zero => rfl
          | succ m ih => rw [sm_succ, ih]; rfl
        rw [this]
        exact Int.le_refl _⟩
    | cons p P => obtain ⟨e, h, -⟩ := hP p List.mem_cons_self; cases h
  | succ k ih =>
    intro hk P hP h1
    have same : ∀ (I J : Nat → Bool), (∀ j, j < k → I j = J j) → (sm (fun j => if I j then (1 : Int) else 0) k = sm (fun j => if J j then 1 else 0) k ∧ ∀ v, useTo es I k v = useTo es J k v) := by
      intro I J h
      refine ⟨sm_congr fun i hi => by rw [h i hi], fun v => ?_⟩
      rw [use_sum, use_sum]
      exact sm_congr fun i hi => by rw [h i hi]
    cases hl : lp es k with
    | true =>
      rw [gadTo_succ, if_pos hl] at hP
      obtain ⟨I, i1, i2, i3⟩ := ih (by omega) P hP h1
      have ik : I k = false := by
        cases t : I k with
        | false => rfl
        | true => have := (i1 k t).1; omega
      refine ⟨I, fun j hj => ⟨by have := (i1 j hj).1; omega, (i1 j hj).2⟩, ?_, fun v hv => ?_⟩
      · rw [nlTo_succ, sm_succ, hl, ik]
        simp
        omega
      · rw [useTo_succ, ik, if_neg (by decide)]
        exact i3 v hv
    | false =>
      rw [gadTo_succ, if_neg (by rw [hl]; decide)] at hP
      have rg := gadTo_mem hcp he k (by omega)
      have hs0 := (hcp.sm_bd N (Nat.le_refl _)).1
      have hx0 : sm cp N ≤ szN cp N es k := by unfold szN; have := (nlTo_bd es k).1; omega
      obtain ⟨x, hx⟩ : ∃ x : Nat, szN cp N es k = (x : Int) := ⟨(szN cp N es k).toNat, by omega⟩
      rw [hx] at hP rg hx0
      obtain ⟨e1, e2, e3, e4⟩ := he k (by omega)
      obtain ⟨f, hf⟩ : ∃ f : Nat, (edAt es k).f = (f : Int) := ⟨(edAt es k).f.toNat, by omega⟩
      obtain ⟨t, ht⟩ : ∃ t : Nat, (edAt es k).t = (t : Int) := ⟨(edAt es k).t.toNat, by omega⟩
      have hft : f ≠ t := by
        intro e
        unfold lp at hl
        rw [hf, ht, e] at hl
        simp at hl
      rw [hf, ht, Int.toNat_natCast, Int.toNat_natCast] at hP
      rw [hf] at e1 e2
      rw [ht] at e3 e4
      let q : Int × Int → Bool := fun p => p.1 == (x : Int) || p.1 == (x : Int) + 1 || p.2 == (x : Int) || p.2 == (x : Int) + 1
      have hq : ∀ p, q p = true ↔ ((p.1 = (x : Int) ∨ p.1 = (x : Int) + 1) ∨ p.2 = (x : Int)) ∨ p.2 = (x : Int) + 1 := fun p => by simp [q]
      have hqn : ∀ p, (!q p) = true ↔ ¬ q p = true := fun p => by cases q p <;> simp
      have R1 : InE (gadTo cp N es k) (P.filter fun p => !q p) := by
        intro p hp
        obtain ⟨hp, nq⟩ := List.mem_filter.1 hp
        rw [hqn, hq] at nq
        obtain ⟨e, he', rfl⟩ := hP p hp
        rcases List.mem_append.1 he' with t' | t'
        · exact ⟨e, t', rfl⟩
        · exfalso
          apply nq
          unfold gadOf at t'
          rcases List.mem_append.1 t' with t' | t'
          · rcases List.mem_append.1 t' with t' | t'
            · obtain rfl := List.mem_singleton.1 t'; exact .inl (.inl (.inl rfl))
            · obtain ⟨j, -, -, h⟩ := upTo_tells t'; exact .inl (.inr h)
          · obtain ⟨j, -, h, -⟩ := dnTo_tells t'; exact .inl (.inl (.inr h))
      have Q1 : ∀ p ∈ P.filter q, p = ((x : Int), (x : Int) + 1) ∨ (∃ j : Nat, j < (cp f).toNat ∧ p = (sm cp f + (j : Int), (x : Int))) ∨ ∃ j : Nat, j < (cp t).toNat ∧ p = ((x : Int) + 1, sm cp t + (j : Int)) := by
        intro p hp
        obtain ⟨hp, nq⟩ := List.mem_filter.1 hp
        rw [hq] at nq
        obtain ⟨e, he', rfl⟩ := hP p hp
        rcases List.mem_append.1 he' with t' | t'
        · have := rg e t'
          simp only at nq
          omega
        · unfold gadOf at t'
          rcases List.mem_append.1 t' with t' | t'
          · rcases List.mem_append.1 t' with t' | t'
            · obtain rfl := List.mem_singleton.1 t'; exact .inl rfl
            · obtain ⟨j, a, b, c⟩ := upTo_tells t'; exact .inr (.inl ⟨j, a, by rw [b, c]⟩)
          · obtain ⟨j, a, b, c⟩ := dnTo_tells t'; exact .inr (.inr ⟨j, a, by rw [b, c]⟩)
      have O2 : ∀ v : Nat, cntP (P.filter q) v + cntP (P.filter fun p => !q p) v ≤ 1 := fun v => by
        have := h1 v; rw [cntP_filter P q] at this; exact this
      have LL := len_filter P q
      have CF : ∀ v : Nat, cntP P v = cntP (P.filter q) v + cntP (P.filter fun p => !q p) v := fun v => cntP_filter P q v
      generalize P.filter q = Q at Q1 O2 LL CF
      generalize (P.filter fun p => !q p) = R at R1 O2 LL CF
      clear hq hqn
      clear q
      have R2 : One R := fun v => by have := O2 v; have := cntP_pos Q v; omega
      obtain ⟨I, i1, i2, i3⟩ := ih (by omega) R R1 R2
      have ik : I k = false := by
        cases t : I k with
        | false => rfl
        | true => have := (i1 k t).1; omega
      have sums : ∀ v, sm (fun c => cntP P ((sm cp v).toNat + c)) (cp v).toNat = sm (fun c => cntP Q ((sm cp v).toNat + c)) (cp v).toNat + sm (fun c => cntP R ((sm cp v).toNat + c)) (cp v).toNat := fun v => by
        rw [← sm_add]
        exact sm_congr fun i _ => CF _
      have nn : ∀ v, 0 ≤ sm (fun c => cntP Q ((sm cp v).toNat + c)) (cp v).toNat := fun v => by
        induction (cp v).toNat with
        | zero => exact Int.le_refl _
        | succ m ih => rw [sm_succ]; have := cntP_pos Q ((sm cp v).toNat + m); omega
      have nl : nlTo es (k + 1) = nlTo es k + 1 := by rw [nlTo_succ, hl]; simp
      by_cases hQ : Q.length ≤ 1
      · refine ⟨I, fun j hj => ⟨by have := (i1 j hj).1; omega, (i1 j hj).2⟩, ?_, fun v hv => ?_⟩
        · rw [nl, sm_succ, ik, if_neg (by decide)]
          omega
        · rw [useTo_succ, ik, if_neg (by decide), sums]
          have := i3 v hv
          have := nn v
          omega
      have hA : ∃ i j : Nat, i < (cp f).toNat ∧ j < (cp t).toNat ∧ (sm cp f + (i : Int), (x : Int)) ∈ Q ∧ ((x : Int) + 1, sm cp t + (j : Int)) ∈ Q ∧ Q.length = 2 := by
        have ox : cntP Q x ≤ 1 := by have := O2 x; have := cntP_pos R x; omega
        have oy : cntP Q (x + 1) ≤ 1 := by have := O2 (x + 1); have := cntP_pos R (x + 1); omega
        clear O2 CF sums nn LL
        cases Q with
        | nil => simp at hQ
        | cons p Q =>
        cases Q with
        | nil => simp at hQ
        | cons p' Q =>
        have hx1 : ((x + 1 : Nat) : Int) = (x : Int) + 1 := by omega
        have a := cntP_hit (p := p) (L := p' :: Q) (v := x)
        have b := cntP_hit (p := p) (L := p' :: Q) (v := x + 1)
        have a' := cntP_hit (p := p') (L := Q) (v := x)
        have b' := cntP_hit (p := p') (L := Q) (v := x + 1)
        have c := cntP_rest p (p' :: Q) x
        have d := cntP_rest p (p' :: Q) (x + 1)
        have c' := cntP_rest p' Q x
        have d' := cntP_rest p' Q (x + 1)
        have z := cntP_pos Q x
        have z' := cntP_pos Q (x + 1)
        rw [hx1] at b b'
        have rest : (1 ≤ cntP Q x ∨ 1 ≤ cntP Q (x + 1)) ∨ Q = [] := by
          cases Q with
          | nil => exact .inr rfl
          | cons r Q =>
            left
            rcases Q1 r (by simp) with h | ⟨j, -, h⟩ | ⟨j, -, h⟩
            · exact .inl (cntP_mem (p := r) (by simp) (.inl (by rw [h])))
            · exact .inl (cntP_mem (p := r) (by simp) (.inr (by rw [h])))
            · exact .inr (cntP_mem (p := r) (by simp) (.inl (by rw [h, hx1])))
        rcases Q1 p (by simp) with h | ⟨i, hi, h⟩ | ⟨i, hi, h⟩
        · have a := a (.inl (by rw [h]))
          have b := b (.inr (by rw [h]))
          rcases Q1 p' (by simp) with h' | ⟨i', hi', h'⟩ | ⟨i', hi', h'⟩
          · have := a' (.inl (by rw [h'])); omega
          · have := a' (.inr (by rw [h'])); omega
          · have := b' (.inl (by rw [h'])); omega
        · have a := a (.inr (by rw [h]))
          rcases Q1 p' (by simp) with h' | ⟨i', hi', h'⟩ | ⟨i', hi', h'⟩
          · have := a' (.inl (by rw [h'])); omega
          · have := a' (.inr (by rw [h'])); omega
          · have b' := b' (.inl (by rw [h']))
            rcases rest with (r | r) | rfl
            · omega
            · omega
            · exact ⟨i, i', hi, hi', by rw [← h]; simp, by rw [← h']; simp, rfl⟩
        · have b := b (.inl (by rw [h]))
          rcases Q1 p' (by simp) with h' | ⟨i', hi', h'⟩ | ⟨i', hi', h'⟩
          · have := b' (.inr (by rw [h'])); omega
          · have a' := a' (.inr (by rw [h']))
            rcases rest with (r | r) | rfl
            · omega
            · omega
            · exact ⟨i', i, hi', hi, by rw [← h']; simp, by rw [← h]; simp, rfl⟩
          · have := b' (.inl (by rw [h'])); omega
      obtain ⟨i, j, hi, hj, mi, mj, len⟩ := hA
      have sf := (hcp.sm_bd f (by omega)).1
      have st := (hcp.sm_bd t (by omega)).1
      obtain ⟨s1, s2⟩ := same (fun j => I j || j == k) I (fun j hj => by
        have : (j == k) = false := by rw [beq_eq_false_iff_ne]; omega
        simp [this])
      refine ⟨fun j => I j || j == k, fun j hj => ?_, ?_, fun v hv => ?_⟩
      · simp only [Bool.or_eq_true, beq_iff_eq] at hj
        rcases hj with hj | rfl
        · exact ⟨by have := (i1 j hj).1; omega, (i1 j hj).2⟩
        · exact ⟨by omega, hl⟩
      · rw [nl, sm_succ, s1, if_pos (by simp)]
        omega
      · rw [useTo_succ, if_pos (by simp), s2, sums, hf, ht]
        have := i3 v hv
        have := nn v
        by_cases hfv : f = v
        · subst hfv
          rw [if_pos rfl, if_neg (by omega)]
          have := sm_hit (f := fun c => cntP Q ((sm cp f).toNat + c)) (fun _ => cntP_pos _ _) hi (cntP_mem mi (.inl (by simp only; omega)))
          omega
        · rw [if_neg (by omega)]
          by_cases htv : t = v
          · subst htv
            rw [if_pos rfl]
            have := sm_hit (f := fun c => cntP Q ((sm cp t).toNat + c)) (fun _ => cntP_pos _ _) hj (cntP_mem mj (.inr (by simp only; omega)))
            omega
          · rw [if_neg (by omega)]
            omega
end Go.Proofs.YtpdppjngbbkbbaaDoor
