/- oddParts. -/
import Derived.Test.YtpdppjngbbkbbaaDoorVoG
namespace Go.Proofs.YtpdppjngbbkbbaaDoor
open Go.RowKit

theorem rowIs_setCells {T : TypeId} {n : Nat} (cb : Nat) : ∀ (vs : List Value) (o : Nat) (w : World) (f : Nat → Value), w.rowIs cb T n f → (w.setCells cb o vs).rowIs cb T n (fun i => if o ≤ i ∧ i < o + vs.length then vs.getD (i - o) undef else f i)
  | [], o, w, f, h => h.congr fun i _ => by rw [if_neg (by simp)]
  | v :: r, o, w, f, h => by
    refine (rowIs_setCells cb r (o + 1) _ _ (h.set o v)).congr fun i _ => ?_
    by_cases e1 : o + 1 ≤ i ∧ i < o + 1 + r.length
    · rw [if_pos e1, if_pos (by simp; omega)]
      obtain ⟨d, rfl⟩ : ∃ d, i = o + 1 + d := ⟨i - (o + 1), by omega⟩
      rw [show o + 1 + d - (o + 1) = d by omega, show o + 1 + d - o = d + 1 by omega]
      simp [List.getD]
    · rw [if_neg e1]
      by_cases e2 : i = o
      · subst e2
        rw [if_pos rfl, if_pos (by simp)]
        simp
      · rw [if_neg e2, if_neg (by simp; omega)]
theorem setCells_kept {W : World} {cb : Nat} (hcb : W.heap.size ≤ cb) : ∀ (vs : List Value) (o : Nat) (w : World), Kept W w → Kept W (w.setCells cb o vs)
  | [], _, _, h => h
  | v :: r, o, _, h => setCells_kept hcb r (o + 1) _ (h.setCell (p := ⟨cb, o, none⟩) hcb v)
theorem setCells_ch {F : Nat → Prop} {cb : Nat} (hcb : F cb) {W : World} : ∀ (vs : List Value) (o : Nat) (w : World), Ch F W w → Ch F W (w.setCells cb o vs)
  | [], _, _, h => h
  | v :: r, o, _, h => setCells_ch hcb r (o + 1) _ (h.setCell (p := ⟨cb, o, none⟩) hcb v)

theorem infoBs : (Tryd.prog.info? 4).map (·.size) = some 1 := by kernel_rfl
/-- One row of bools over another. -/
theorem copy_bools {w : World} {cb ob n : Nat} {f g : Nat → Bool} (hc : BlsAt w cb n f) (ho : BlsAt w ob n g) :
    (Builtin.copy_ #[94, 94] 3 #[.slice (some ⟨cb, 0, none⟩) n n, .slice (some ⟨ob, 0, none⟩) n n]).run Tryd.prog w = .ok (.int .i64 (n : Int)) (w.setCells cb 0 ((List.range n).map fun i => Value.bool (g i))) ∧ BlsAt (w.setCells cb 0 ((List.range n).map fun i => Value.bool (g i))) cb n g := by
  refine ⟨?_, (rowIs_setCells cb _ 0 w _ hc).congr fun i hi => ?_⟩
  · have := run_copy_cells (P := Tryd.prog) w 94 94 3 4 cb 0 n n ⟨ob, 0, none⟩ n n ((List.range n).map fun i => Value.bool (g i)) Tryd.underlying94 infoBs (by simp) (fun j v hj => by
      have hjn : j < n := by
        have := (List.getElem?_eq_some_iff.1 hj).1
        simpa using this
      have e : v = .bool (g j) := by simpa [hjn] using hj.symm
      have := ho.cell hjn
      rw [e]
      unfold Addr.add
      by_cases j0 : j = 0
      · subst j0; simpa using this
      · simpa [j0] using this) (fun j hj => by
      have hjn : j < n := by simpa using hj
      rw [Nat.zero_add, hc.cell hjn]; rfl) (fun j _ => by rw [Nat.zero_add]; exact World.rowIs.frozen hc j) (fun v hv => by
      obtain ⟨i, _, rfl⟩ := List.mem_map.1 hv
      rfl)
    simpa [goInt] using this
  · rw [if_pos (by simp; omega)]
    simp [List.getD, hi]

/-- The edges that join nodes beside a set. -/
def rest (es : List Ed) (S : Nat → Bool) : List Ed := es.filter fun e => !S e.f.toNat && !S e.t.toNat
/-- There is a way beside a set. -/
def Hang (es : List Ed) (S : Nat → Bool) (u v : Nat) : Prop := Way (outs (both (rest es S))) u v

open Classical in
/-- One, if something holds. -/
noncomputable def ind (p : Prop) : Int := if p then 1 else 0
theorem ind_pos {p : Prop} (h : p) : ind p = 1 := by unfold ind; rw [if_pos h]
theorem ind_neg {p : Prop} (h : ¬ p) : ind p = 0 := by unfold ind; rw [if_neg h]
theorem ind_congr {p q : Prop} (h : p ↔ q) : ind p = ind q := by
  by_cases hp : p
  · rw [ind_pos hp, ind_pos (h.1 hp)]
  · rw [ind_neg hp, ind_neg (fun t => hp (h.2 t))]
theorem ind_bd (p : Prop) : 0 ≤ ind p ∧ ind p ≤ 1 := by
  by_cases hp : p
  · rw [ind_pos hp]; omega
  · rw [ind_neg hp]; omega
/-- How many of the first k nodes are so. -/
noncomputable def cntTo (p : Nat → Prop) (k : Nat) : Int := sm (fun v => ind (p v)) k
open Classical in
/-- Is a node the least of a part beside the set, and is that part odd? -/
noncomputable def oddAt (es : List Ed) (S : Nat → Bool) (N r : Nat) : Int :=
  if S r = false ∧ ∀ u, u < r → ¬ Hang es S u r then cntTo (Hang es S r) N % 2 else 0
/-- How many parts beside the set are odd. -/
noncomputable def oddTo (es : List Ed) (S : Nat → Bool) (N k : Nat) : Int := sm (oddAt es S N) k
theorem oddTo_succ (es : List Ed) (S : Nat → Bool) (N k : Nat) : oddTo es S N (k + 1) = oddTo es S N k + oddAt es S N k := rfl
theorem oddAt_bd (es : List Ed) (S : Nat → Bool) (N r : Nat) : 0 ≤ oddAt es S N r ∧ oddAt es S N r ≤ 1 := by
  unfold oddAt
  split <;> omega

theorem rest_rg {es : List Ed} {n : Nat} (hrg : ∀ e ∈ es, 0 ≤ e.f ∧ e.f < (n : Int) ∧ 0 ≤ e.t ∧ e.t < (n : Int)) (S : Nat → Bool) : ∀ e ∈ rest es S, 0 ≤ e.f ∧ e.f < (n : Int) ∧ 0 ≤ e.t ∧ e.t < (n : Int) := fun e he => hrg e (List.mem_filter.1 he).1
theorem rest_mem {es : List Ed} {S : Nat → Bool} {e : Ed} : e ∈ rest es S ↔ e ∈ es ∧ S e.f.toNat = false ∧ S e.t.toNat = false := by
  simp [rest, List.mem_filter]
theorem outs_rest {es : List Ed} {n : Nat} (hrg : ∀ e ∈ es, 0 ≤ e.f ∧ e.f < (n : Int) ∧ 0 ≤ e.t ∧ e.t < (n : Int)) (S : Nat → Bool) (u v : Nat) : v ∈ outs (both (rest es S)) u ↔ v ∈ outs (both es) u ∧ S u = false ∧ S v = false := by
  rw [← adj_outs hrg, ← adj_outs (rest_rg hrg S), adj_mem, adj_mem]
  constructor
  · rintro ⟨i, hi, h⟩
    have hm := mem_at hi
    obtain ⟨m1, m2, m3⟩ := rest_mem.1 hm
    obtain ⟨j, hj, he⟩ := memW_edAt m1
    rcases h with ⟨h1, h2⟩ | ⟨h1, h2⟩
    · rw [h1, Int.toNat_natCast] at m2
      rw [h2, Int.toNat_natCast] at m3
      exact ⟨⟨j, hj, .inl ⟨by rw [he]; exact h1, by rw [he]; exact h2⟩⟩, m2, m3⟩
    · rw [h1, Int.toNat_natCast] at m3
      rw [h2, Int.toNat_natCast] at m2
      exact ⟨⟨j, hj, .inr ⟨by rw [he]; exact h1, by rw [he]; exact h2⟩⟩, m3, m2⟩
  · rintro ⟨⟨i, hi, h⟩, su, sv⟩
    have hm : edAt es i ∈ rest es S := by
      rw [rest_mem]
      rcases h with ⟨h1, h2⟩ | ⟨h1, h2⟩
      · rw [h1, h2, Int.toNat_natCast, Int.toNat_natCast]; exact ⟨mem_at hi, su, sv⟩
      · rw [h1, h2, Int.toNat_natCast, Int.toNat_natCast]; exact ⟨mem_at hi, sv, su⟩
    obtain ⟨j, hj, he⟩ := memW_edAt hm
    exact ⟨j, hj, by rw [he]; exact h⟩
section
variable {es : List Ed} {n : Nat} (hrg : ∀ e ∈ es, 0 ≤ e.f ∧ e.f < (n : Int) ∧ 0 ≤ e.t ∧ e.t < (n : Int)) {S : Nat → Bool}
include hrg
theorem Hang.symm {u v : Nat} (h : Hang es S u v) : Hang es S v u := Way.symm_of (fun _ _ t => both_symm (rest_rg hrg S) t) h
theorem Hang.lt {u v : Nat} (h : Hang es S u v) (hu : u < n) : v < n := Way.lt (outs_lt (both_rg (rest_rg hrg S))) h hu
theorem Hang.off {u v : Nat} (h : Hang es S u v) (hu : S u = false) : S v = false := by
  induction h with
  | refl => exact hu
  | step _ hx ih => exact ((outs_rest hrg S _ _).1 hx).2.2
theorem Hang.on {u v : Nat} (h : Hang es S u v) (hu : S u = true) : u = v := by
  induction h with
  | refl => rfl
  | step _ hx ih =>
    subst ih
    have := ((outs_rest hrg S _ _).1 hx).2.1
    rw [hu] at this
    cases this
end

/-- What was come to from the first r nodes. -/
def Come (es : List Ed) (S : Nat → Bool) (C : Nat → Bool) (r n : Nat) : Prop := ∀ v, v < n → (C v = true ↔ S v = true ∨ ∃ u, u < r ∧ S u = false ∧ Hang es S u v)

/-- From a node that was not come to, just its part is come to. -/
theorem come_part {es : List Ed} {n : Nat} (hrg : ∀ e ∈ es, 0 ≤ e.f ∧ e.f < (n : Int) ∧ 0 ≤ e.t ∧ e.t < (n : Int)) {S C : Nat → Bool} {r : Nat} (hr : r < n) (hC : Come es S C r n) (hcr : C r = false) (u : Nat) :
    Way (fun v => (Lf C (adj es es.length) v).map Int.toNat) r u ↔ Hang es S r u := by
  have hsr : S r = false := by
    cases e : S r with
    | false => rfl
    | true => have := (hC r hr).2 (.inl e); rw [hcr] at this; cases this
  have nc : ∀ x, x < n → Hang es S r x → C x = false := fun x hx hw => by
    cases e : C x with
    | false => rfl
    | true =>
      rcases (hC x hx).1 e with h | ⟨u, hu, su, h⟩
      · have := Hang.off hrg hw hsr; rw [h] at this; cases this
      · have := (hC r hr).2 (.inr ⟨u, hu, su, Way.trans h (Hang.symm hrg hw)⟩)
        rw [hcr] at this; cases this
  have step : ∀ v x, v < n → (x ∈ (Lf C (adj es es.length) v).map Int.toNat ↔ x ∈ outs (both es) v ∧ C x = false) := fun v x hv => by
    rw [← adj_outs hrg v x]
    constructor
    · intro h
      obtain ⟨t, ht, rfl⟩ := List.mem_map.1 h
      obtain ⟨h1, h2⟩ := List.mem_filter.1 ht
      have h0 : 0 ≤ t := by
        obtain ⟨i, hi, ⟨a, b⟩ | ⟨a, b⟩⟩ := adj_mem.1 h1
        · have := hrg _ (mem_at hi); omega
        · have := hrg _ (mem_at hi); omega
      refine ⟨by rw [show ((t.toNat : Nat) : Int) = t by omega]; exact h1, by simpa using h2⟩
    · rintro ⟨h1, h2⟩
      exact List.mem_map.2 ⟨_, List.mem_filter.2 ⟨h1, by simp [h2]⟩, by simp⟩
  constructor
  · intro h
    have : Hang es S r u ∧ C u = C u := by
      refine ⟨?_, rfl⟩
      induction h with
      | refl => exact Way.refl _
      | step hw hx ih =>
        rename_i v x
        have hv := Hang.lt hrg ih hr
        obtain ⟨h1, h2⟩ := (step v x hv).1 hx
        have hxn : x < n := outs_lt (both_rg hrg) v hv x h1
        refine Way.step ih ((outs_rest hrg S v x).2 ⟨h1, Hang.off hrg ih hsr, ?_⟩)
        cases e : S x with
        | false => rfl
        | true => have := (hC x hxn).2 (.inl e); rw [h2] at this; cases this
    exact this.1
  · intro h
    induction h with
    | refl => exact Way.refl _
    | step hw hx ih =>
      rename_i v x
      have hv := Hang.lt hrg (S := S) hw hr
      have hxn := Hang.lt hrg (S := S) (Way.step hw hx) hr
      exact ih.step ((step v x hv).2 ⟨((outs_rest hrg S v x).1 hx).1, nc x hxn (Way.step hw hx)⟩)

/-- A list without two alike has as many numbers as there are in it. -/
theorem cnt_list : ∀ (q : List Nat) (n : Nat), q.Nodup → (∀ u ∈ q, u < n) → cntTo (fun v => v ∈ q) n = (q.length : Int)
  | [], n, _, _ => by
    unfold cntTo
    rw [sm_congr (g := fun _ => 0) (fun i _ => ind_neg (by simp)), sm_zero]
    rfl
  | a :: q, n, hd, hl => by
    have hd' := List.nodup_cons.1 hd
    have ih := cnt_list q n hd'.2 (fun u hu => hl u (by simp [hu]))
    unfold cntTo at ih ⊢
    have e : ∀ v, v < n → ind (v ∈ a :: q) = (if (a : Int) = (v : Int) then 1 else 0) + ind (v ∈ q) := fun v _ => by
      by_cases h1 : v = a
      · subst h1; rw [ind_pos (by simp), if_pos rfl, ind_neg hd'.1]; rfl
      · have h2 : ¬ (a : Int) = (v : Int) := by omega
        rw [if_neg h2, Int.zero_add]
        exact ind_congr (by simp [h1])
    rw [sm_congr e, sm_add, ih, sm_pick (fun _ => 1) (a : Int) n (by omega) (by have := hl a (by simp); omega)]
    simp
    omega
theorem cntTo_congr {p q : Nat → Prop} {n : Nat} (h : ∀ v, v < n → (p v ↔ q v)) : cntTo p n = cntTo q n :=
  sm_congr fun v hv => ind_congr (h v hv)
end Go.Proofs.YtpdppjngbbkbbaaDoor
