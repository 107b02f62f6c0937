/- Strong: from the node that is left last, what leads to it is its part. The mathematics; the sort; the walk. -/
import Derived.Test.YtjheiaegpoppaaaPaI
import Derived.Test.YtjheiaegpoppaaaViF
import Derived.Test.YtjheiaegpoppaaaSoL
namespace Go.Proofs.Ytjheiaegpoppaaa
open Go.RowKit

theorem Off.trans {L : Nat → List Nat} {A : Nat → Prop} {a b c : Nat} (h : Off L A a b) (k : Off L A b c) : Off L A a c := by
  induction k with
  | refl => exact h
  | step _ hx hn ih => exact ih.step hx hn

theorem turn_outs {es : List Ed} {n : Nat} (hrg : ∀ e ∈ es, 0 ≤ e.f ∧ e.f < (n : Int) ∧ 0 ≤ e.t ∧ e.t < (n : Int)) {u v : Nat} : v ∈ outs (es.map turn) u ↔ u ∈ outs es v := by
  constructor
  · intro h
    obtain ⟨e, he, h1, h2⟩ := outs_mem h
    obtain ⟨d, hd, rfl⟩ := List.mem_map.1 he
    have r := hrg d hd
    have h2' : d.f.toNat = v := h2
    exact mem_outs' hd (by omega) h1
  · intro h
    obtain ⟨e, he, h1, h2⟩ := outs_mem h
    have r := hrg e he
    exact mem_outs' (e := turn e) (List.mem_map.2 ⟨e, he, rfl⟩) (by show e.t = _; omega) h1

theorem turn_rg {es : List Ed} {n : Nat} (hrg : ∀ e ∈ es, 0 ≤ e.f ∧ e.f < (n : Int) ∧ 0 ≤ e.t ∧ e.t < (n : Int)) : ∀ e ∈ es.map turn, 0 ≤ e.f ∧ e.f < (n : Int) ∧ 0 ≤ e.t ∧ e.t < (n : Int) := fun e he => by
  obtain ⟨d, hd, rfl⟩ := List.mem_map.1 he
  have := hrg d hd
  exact ⟨this.2.2.1, this.2.2.2, this.1, this.2.1⟩

theorem back_off {es : List Ed} {n : Nat} (hrg : ∀ e ∈ es, 0 ≤ e.f ∧ e.f < (n : Int) ∧ 0 ≤ e.t ∧ e.t < (n : Int)) {A : Nat → Prop} {x r : Nat} (h : Way (outs es) x r) : (∀ y, Way (outs es) x y → Way (outs es) y r → ¬ A y) → Off (outs (es.map turn)) A r x := by
  induction h with
  | refl => intro _; exact .refl
  | @step v r hw hx ih =>
    intro hA
    have h1 := ih (fun y h1 h2 => hA y h1 (h2.step hx))
    exact (Off.step .refl ((turn_outs hrg).2 hx) (hA v hw ((Way.refl v).step hx))).trans h1

/-- Strong parts, taken from the node that is left last. -/
theorem strong_num {es : List Ed} {n : Nat} (hrg : ∀ e ∈ es, 0 ≤ e.f ∧ e.f < (n : Int) ∧ 0 ≤ e.t ∧ e.t < (n : Int)) {p q : Nat → Int} (N : Nested es n p q) {ρl : List Nat} (hlen : ρl.length = n) (hlt : ∀ r ∈ ρl, r < n) (cov : ∀ v, v < n → ∃ j, j < n ∧ ρl.getD j 0 = v) (hord : ∀ i j, i < j → j < n → q (ρl.getD j 0) ≤ q (ρl.getD i 0)) :
    (∀ x, x < n → ∃ a : Nat, pf (natL (nxt (es.map turn) (es.map turn).length)) (fun j => ρl.getD j 0) n x = (a : Int) ∧ a < n) ∧ ∃ cnt, NumOf n (Mut es) (ncl (pnm (nxt (es.map turn) (es.map turn).length) ρl n)) cnt := by
  have hρ : ∀ j, j < n → ρl.getD j 0 < n := fun j hj => by
    have hj2 : j < ρl.length := by omega
    have hm : ρl.getD j 0 ∈ ρl := by simp [List.getD, hj2]
    exact hlt _ hm
  refine names_num (pf_inv hρ (fun u v _ _ h => ⟨h.2, h.1⟩) (fun u v x _ _ _ h k => ⟨h.1.trans k.1, k.2.trans h.2⟩) (fun u _ => ⟨Way.refl u, Way.refl u⟩) (fun k hk P hr x hx hpx => ?_) n (Nat.le_refl _)) cov
  have hrn := hρ k hk
  obtain ⟨r, hre⟩ : ∃ r, ρl.getD k 0 = r := ⟨_, rfl⟩
  rw [hre] at hr hrn ⊢
  have top : ∀ y, y < n → pf (natL (nxt (es.map turn) (es.map turn).length)) (fun j => ρl.getD j 0) k y < 0 → q y ≤ q r := fun y hy hp => by
    obtain ⟨i, hi, e⟩ := cov y hy
    by_cases hik : i < k
    · have := P.roots i hik
      rw [e] at this
      omega
    · by_cases eik : i = k
      · subst eik; rw [← e, hre]; exact Int.le_refl _
      · have := hord k i (by omega) hi
        rw [e, hre] at this
        exact this
  constructor
  · intro h
    have main : ∀ y, Off (outs (es.map turn)) (fun x => 0 ≤ pf (natL (nxt (es.map turn) (es.map turn).length)) (fun j => ρl.getD j 0) k x) r y → y < n ∧ p r ≤ p y ∧ q y ≤ q r ∧ Way (outs es) y r := by
      intro y hy
      induction hy with
      | refl => exact ⟨hrn, Int.le_refl _, Int.le_refl _, Way.refl r⟩
      | @step v y hv hy hn ih =>
        obtain ⟨hvn, h1, h2, h3⟩ := ih
        have hyn : y < n := outs_lt (turn_rg hrg) v hvn y hy
        have hm : v ∈ outs es y := (turn_outs hrg).1 hy
        have hq : q y ≤ q r := top y hyn (by omega)
        have he := N.edge y v hyn hvn hm
        refine ⟨hyn, ?_, hq, ((Way.refl y).step hm).trans h3⟩
        by_cases c : p y < p r
        · have := N.nest y r hyn hrn c (by omega)
          omega
        · omega
    obtain ⟨a, b, c, d⟩ := main x h
    exact ⟨N.desc r x hrn hx b c, d⟩
  · intro h
    refine back_off hrg h.2 (fun y h1 h2 hA => ?_)
    have hyn : y < n := h1.lt (outs_lt hrg) hx
    have := P.cl y r hyn hrn hA ⟨h2, h.1.trans h1⟩
    omega

/-- What a sort leaves. -/
theorem Ch.of_sort {α : Type} [Inhabited α] (enc : α → Value) (w : World) (blk off m : Nat) (dk : Array α) (os : Array Obj) : Ch (fun k => k = blk) w (sortWorld enc w blk off m dk os) := by
  refine ⟨rfl, rfl, rfl, ?_, fun k hk hne => ?_⟩
  · unfold sortWorld
    rw [Sort.size_grow, Sort.size_putRow, Sort.heap_ahead]
    exact Nat.le_add_right _ _
  · unfold sortWorld
    rw [Sort.heap_grow_old _ _ (by rw [Sort.size_putRow, Sort.heap_ahead]; exact hk)]
    show (w.heap.modify blk _)[k]? = _
    rw [Array.getElem?_modify, if_neg (fun e => hne e.symm)]

set_option maxRecDepth 100000 in
set_option maxHeartbeats 2000000 in
theorem scl_calls (W : World) (bx gq n : Nat) (q : Nat → Int) (hb : W.cell? ⟨bx, 0, none⟩ = some (.slice (some ⟨gq, 0, none⟩) n n)) (hQ : IntsAt W gq n q) (hbd : Hid (∀ v, v < n → 0 ≤ q v ∧ q v < 4096)) (x y : Nat) (hx : x < n) (hy : y < n) :
    Calls Try.prog 38 #[.int .i64 (x : Int), .int .i64 (y : Int), .pointer (some ⟨bx, 0, none⟩)] W fun e w' => e = .returned (.int .i64 (q y - q x)) ∧ ∃ d, w' = W.drewN d := by
  have cx := hQ.cell hx
  have cy := hQ.cell hy
  have b1 := hbd.out x hx
  have b2 := hbd.out y hy
  have hxi : (x : Int) < (n : Int) := by omega
  have hyi : (y : Int) < (n : Int) := by omega
  generalize q x = zx at *
  generalize q y = zy at *
  have hwr : IntKind.i64.wrap (zy - zx) = zy - zx := by rw [IntKind.wrap_i64]; first | omega | (unfold wrap64; omega)
  clear hQ
  go_enter Try.func38, Try.ntmps38
  go_wp2_with fail
  go_quiet (fail)
  go_wp2_with fail
  go_ret
  exact ⟨rfl, _, rfl⟩
end Go.Proofs.Ytjheiaegpoppaaa
