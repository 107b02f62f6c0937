/- Rows of int of the call's own, ways, parts: what the program's proofs and vouchers need of them. -/
import Derived.Test.YtpdppjngbbkbbaaDoorIntsW
import Derived.Test.YtpdppjngbbkbbaaDoorOrd
import Derived.Test.YtpdppjngbbkbbaaDoorOrdZ
import Derived.Test.YtpdppjngbbkbbaaDoorRightW
import Derived.Laws.IdiomCopy
import Derived.Deep.OwnRows
import Derived.Deep.DeepCutAuto
import Derived.Deep.CutBlock
import Derived.Deep.RegionLaw
import Derived.Deep.AppendLies
import Derived.Deep.Onto
import Derived.WalkMore
import Derived.Deep.LoopGhost
namespace Go.Proofs.YtpdppjngbbkbbaaDoor
open Go.RowKit

/-- A list of int as long as its block, its numbers by the index. -/
def IntsAt (w : World) (g n : Nat) (f : Nat → Int) : Prop := w.rowIs g 3 n (fun i => .int .i64 (f i))

theorem IntsAt.kept {w w' : World} {g n : Nat} {f : Nat → Int} (h : IntsAt w g n f) (K : Kept w w') : IntsAt w' g n f := h.of_block (K.block g h.lt)

theorem IntsAt.ch {F : Nat → Prop} {w w' : World} {g n : Nat} {f : Nat → Int} (h : IntsAt w g n f) (C : Ch F w w') (hF : ¬ F g) : IntsAt w' g n f := h.of_block (C.block g h.lt hF)

theorem IntsAt.cell {w : World} {g n : Nat} {f : Nat → Int} (h : IntsAt w g n f) {i : Nat} (hi : i < n) : w.cell? ⟨g, i, none⟩ = some (.int .i64 (f i)) := World.rowIs.cell h hi

theorem IntsAt.set {w : World} {g n : Nat} {f : Nat → Int} (h : IntsAt w g n f) (i : Nat) (z : Int) : IntsAt (w.setCell ⟨g, i, none⟩ (.int .i64 z)) g n (fun j => if j = i then z else f j) :=
  (World.rowIs.set h i (.int .i64 z)).congr (fun j _ => by by_cases e : j = i <;> simp [e])

/-- Where the first k edges lead from each node. -/
def nxt (es : List Ed) (k : Nat) (v : Nat) : List Int := ((es.take k).filter fun e => e.f == (v : Int)).map Ed.t

theorem take_snocW (es : List Ed) (k : Nat) (hk : k < es.length) : es.take (k + 1) = es.take k ++ [edAt es k] := by
  have e1 : edAt es k = es[k] := by simp [edAt, List.getD, hk]
  rw [List.take_succ_eq_append_getElem hk, e1]

/-- A list of lists of int, each in memory of its own, in blocks from B on. -/
structure NextAt (w : World) (B h n : Nat) (L : Nat → List Int) : Prop where
  ex : ∃ sv : Nat → Value, w.rowIs h 25 n sv ∧ (∀ v, v < n → w.ownsRow B 3 1 (sv v) (L v).length (jvals (L v))) ∧ (∀ v, v < n → (sv v).ownBlock ≠ some h) ∧ (∀ u v, u < n → v < n → u ≠ v → ∀ k, (sv u).ownBlock = some k → (sv v).ownBlock ≠ some k)
  ge : B ≤ h

theorem NextAt.ch {F : Nat → Prop} {w w' : World} {B h n : Nat} {L : Nat → List Int} (hN : NextAt w B h n L) (C : Ch F w w') (hF : ∀ k, F k → k < B) : NextAt w' B h n L := by
  obtain ⟨sv, r, o, a, b⟩ := hN.ex
  have hg := hN.ge
  refine ⟨⟨sv, r.of_block (C.block h r.lt (fun t => by have := hF h t; omega)), fun v hv => C.owns (o v hv) (fun k e t => ?_), a, b⟩, hg⟩
  have := hF k t
  have := ((o v hv).lt k e).1
  omega

theorem NextAt.kept {w w' : World} {B h n : Nat} {L : Nat → List Int} (hN : NextAt w B h n L) (K : Kept w w') : NextAt w' B h n L := hN.ch (F := fun _ => False) (.of_kept K) (fun _ t => t.elim)

theorem jvals_len (zs : List Int) : (jvals zs).length = zs.length := by simp [jvals]

/-- Behind an append onto one of the lists, and the store of it. -/
theorem next_grow {wr w1 : World} {B h n f g cap m : Nat} {sv : Nat → Value} {L : Nat → List Int} {t : Int} {o : Obj} (r : wr.rowIs h 25 n sv) (ow : ∀ v, v < n → wr.ownsRow B 3 1 (sv v) (L v).length (jvals (L v))) (a : ∀ v, v < n → (sv v).ownBlock ≠ some h)
    (b : ∀ u v, u < n → v < n → u ≠ v → ∀ k, (sv u).ownBlock = some k → (sv v).ownBlock ≠ some k) (ge : B ≤ h) (hf : f < n) (hm : (L f).length = m)
    (own : w1.ownsRow B 3 1 (.slice (some ⟨g, 0, none⟩) (m + 1) cap) (m + 1) (jvals (L f) ++ [.int .i64 t])) (grow : (wr.alloc o).grownBy w1 (sv f).ownBlock) (hat : (sv f).ownBlock = some g ∨ g = wr.heap.size + 1) :
    w1.cell? ⟨h, f, none⟩ = some (sv f) ∧ w1.frozen? ⟨h, f, none⟩ = false ∧ NextAt (w1.setCell ⟨h, f, none⟩ (.slice (some ⟨g, 0, none⟩) (m + 1) cap)) B h n (fun v => if v = f then L v ++ [t] else L v) := by
  have KA : Kept wr (wr.alloc o) := (Kept.refl wr).alloc o
  have lh := r.lt
  have lhA : h < (wr.alloc o).heap.size := Nat.lt_of_lt_of_le lh KA.size
  have rA : (wr.alloc o).rowIs h 25 n sv := r.alloc o
  have r1 : w1.rowIs h 25 n sv := rA.of_block (grow.block h lhA (fun e => a f hf e.symm))
  have gh : g ≠ h := by
    rcases hat with e | e
    · intro t; exact a f hf (by rw [e, t])
    · omega
  have ngh : (Value.slice (some ⟨g, 0, none⟩) (m + 1) cap).ownBlock ≠ some h := by simp [Value.ownBlock]; exact gh
  have hs : (w1.setCell ⟨h, f, none⟩ (.slice (some ⟨g, 0, none⟩) (m + 1) cap)).heap.size = w1.heap.size := by simp [World.setCell]
  refine ⟨r1.cell hf, r1.frozen f, ⟨fun v => if v = f then .slice (some ⟨g, 0, none⟩) (m + 1) cap else sv v, r1.set f _, fun v hv => ?_, fun v hv => ?_, fun u v hu hv huv k hk => ?_⟩, ge⟩
  · by_cases e : v = f
    · subst e
      simp only [if_true]
      rw [List.length_append, hm, ← jvals_snoc]
      exact ownsRow_setCell_other own ngh _
    · simp only [e, if_false]
      have o1 := ((ow v hv).alloc o).kept grow (by
        cases hb : (sv v).ownBlock with
        | none => exact .inl rfl
        | some k => exact .inr (fun t => b v f hv hf e k hb (by rw [← t])))
      exact ownsRow_setCell_other o1 (a v hv) _
  · by_cases e : v = f
    · simp only [e, if_true]; exact ngh
    · simp only [e, if_false]; exact a v hv
  · by_cases e1 : u = f
    · subst e1
      simp only [if_true] at hk
      have e2 : ¬ v = u := fun t => huv t.symm
      simp only [e2, if_false]
      have hk' : g = k := by simpa [Value.ownBlock] using hk
      subst hk'
      rcases hat with t | t
      · exact b u v hu hv huv g t
      · intro s
        have := ((ow v hv).lt g s).2
        omega
    · simp only [e1, if_false] at hk
      by_cases e2 : v = f
      · subst e2
        simp only [if_true]
        intro s
        have hk' : g = k := by simpa [Value.ownBlock] using s
        subst hk'
        rcases hat with t | t
        · exact b u v hu hv huv g hk t
        · have := ((ow u hu).lt g hk).2
          omega
      · simp only [e2, if_false]
        exact b u v hu hv huv k hk

theorem infoS0 : (Tryd.prog.info? 25).map (fun i => (i.zero, i.size, i.bytes)) = some (some (.slice none 0 0), 1, 24) := by kernel_rfl

theorem nodup_len : ∀ (n : Nat) (l : List Nat), l.Nodup → (∀ u ∈ l, u < n) → l.length ≤ n := by
  intro n
  induction n with
  | zero => intro l _ h; cases l with
    | nil => simp
    | cons a l => exact absurd (h a (by simp)) (by omega)
  | succ n ih =>
    intro l hn h
    have h1 : (l.erase n).length ≤ n := ih _ (hn.erase n) (fun u hu => by
      rw [hn.mem_erase_iff] at hu
      have := h u hu.2
      omega)
    rw [List.length_erase] at h1
    split at h1 <;> omega

/-- A queue as numbers. -/
def qz (q : List Nat) : List Int := q.map fun (u : Nat) => (u : Int)

theorem qz_len (q : List Nat) : (qz q).length = q.length := by simp [qz]

theorem qz_snoc (q : List Nat) (u : Nat) : qz (q ++ [u]) = qz q ++ [(u : Int)] := by simp [qz]

theorem qz_get (q : List Nat) (i : Nat) (hi : i < q.length) : (qz q).getD i 0 = ((q.getD i 0 : Nat) : Int) := by simp [qz, List.getD, hi]

theorem NextAt.read {w : World} {B q n gl : Nat} {L : Nat → List Int} (h : NextAt w B q n L) (hgl : gl < B) (v : Nat) (hv : v < n) :
    ∃ so sc, w.cell? ⟨q, v, none⟩ = some (.slice so (L v).length sc) ∧ (L v).length ≤ sc ∧ sc ≤ maxLen ∧ (0 < (L v).length → ∃ b off, so = some ⟨b, off, none⟩ ∧ ¬ b = gl ∧ ∀ j, j < (L v).length → w.cell? ⟨b, off + j, none⟩ = some (.int .i64 ((L v).getD j 0))) := by
  obtain ⟨sv, r, ow, -, -⟩ := h.ex
  have o := ow v hv
  obtain ⟨so, sc, e⟩ := owns_slice1j o
  rw [e] at o
  have J := JRow.of_owns o
  refine ⟨so, sc, by rw [r.cell hv, e], J.room, J.most, fun hp => ?_⟩
  obtain ⟨b, off, e2, hc⟩ := J.cell hp
  refine ⟨b, off, e2, fun t => ?_, hc⟩
  have := (World.ownsRow.lt o b (by rw [e2]; rfl)).1
  omega

/-- There is a way. -/
inductive Way (L : Nat → List Nat) : Nat → Nat → Prop
  | refl (u : Nat) : Way L u u
  | step {u v x : Nat} : Way L u v → x ∈ L v → Way L u x

theorem Way.trans {L : Nat → List Nat} {a b c : Nat} (h : Way L a b) (k : Way L b c) : Way L a c := by
  induction k with
  | refl => exact h
  | step _ hx ih => exact ih.step hx

theorem filter_le {α : Type} (p q : α → Bool) (l : List α) (h : ∀ x ∈ l, p x = true → q x = true) : (l.filter p).length ≤ (l.filter q).length := by
  induction l with
  | nil => simp
  | cons a l ih =>
    have ih := ih (fun x hx => h x (by simp [hx]))
    have ha := h a (by simp)
    simp only [List.filter_cons]
    cases hp : p a <;> cases hq : q a <;> simp_all <;> omega

theorem filter_lt {α : Type} (p q : α → Bool) (l : List α) (h : ∀ x ∈ l, p x = true → q x = true) {a : α} (ha : a ∈ l) (h1 : p a = false) (h2 : q a = true) : (l.filter p).length < (l.filter q).length := by
  induction l with
  | nil => cases ha
  | cons b l ih =>
    have hb := h b (by simp)
    have hl := filter_le p q l (fun x hx => h x (by simp [hx]))
    simp only [List.filter_cons]
    rcases List.mem_cons.1 ha with rfl | hm
    · rw [h1, h2]; simp; omega
    · have := ih (fun x hx => h x (by simp [hx])) hm
      cases hp : p b <;> cases hq : q b <;> simp_all <;> omega

/-- An edge turned about. -/
def turn (e : Ed) : Ed := ⟨e.t, e.f, e.c, e.k⟩

/-- Where the edges of each node lead, in their order. -/
def outs (es : List Ed) (v : Nat) : List Nat := (nxt es es.length v).map Int.toNat

theorem nxt_mem {es : List Ed} {k v : Nat} {t : Int} (h : t ∈ nxt es k v) : ∃ e ∈ es, e.f = (v : Int) ∧ e.t = t := by
  unfold nxt at h
  simp only [List.mem_map, List.mem_filter, beq_iff_eq] at h
  obtain ⟨e, ⟨h1, h2⟩, h3⟩ := h
  exact ⟨e, List.mem_of_mem_take h1, h2, h3⟩

theorem nxt_len (es : List Ed) (k v : Nat) : (nxt es k v).length ≤ es.length := by
  unfold nxt
  rw [List.length_map]
  exact Nat.le_trans (List.length_filter_le _ _) (by simp; omega)

/-- The edges, each both ways. -/
def both (es : List Ed) : List Ed := es ++ es.map turn

theorem both_rg {es : List Ed} {n : Nat} (hrg : ∀ e ∈ es, 0 ≤ e.f ∧ e.f < (n : Int) ∧ 0 ≤ e.t ∧ e.t < (n : Int)) : ∀ e ∈ both es, 0 ≤ e.f ∧ e.f < (n : Int) ∧ 0 ≤ e.t ∧ e.t < (n : Int) := fun e he => by
  rcases List.mem_append.1 he with he | he
  · exact hrg e he
  · obtain ⟨d, hd, rfl⟩ := List.mem_map.1 he
    have := hrg d hd
    exact ⟨this.2.2.1, this.2.2.2, this.1, this.2.1⟩

theorem mem_outs' {es : List Ed} {e : Ed} (he : e ∈ es) {f t : Nat} (hf : e.f = (f : Int)) (ht : e.t = (t : Int)) : t ∈ outs es f := by
  unfold outs nxt
  rw [List.take_length]
  simp only [List.mem_map, List.mem_filter]
  refine ⟨(t : Int), ⟨e, ⟨he, by rw [hf]; simp⟩, ht⟩, by simp⟩

theorem outs_mem {es : List Ed} {f t : Nat} (h : t ∈ outs es f) : ∃ e ∈ es, e.f = (f : Int) ∧ e.t.toNat = t := by
  unfold outs at h
  obtain ⟨z, hz, rfl⟩ := List.mem_map.1 h
  obtain ⟨e, he, h1, rfl⟩ := nxt_mem hz
  exact ⟨e, he, h1, rfl⟩

theorem both_symm {es : List Ed} {n : Nat} (hrg : ∀ e ∈ es, 0 ≤ e.f ∧ e.f < (n : Int) ∧ 0 ≤ e.t ∧ e.t < (n : Int)) {u v : Nat} (h : v ∈ outs (both es) u) : u ∈ outs (both es) v := by
  obtain ⟨e, he, h1, h2⟩ := outs_mem h
  have r := both_rg hrg e he
  have ht : e.t = (v : Int) := by omega
  rcases List.mem_append.1 he with he | he
  · exact mem_outs' (e := turn e) (List.mem_append.2 (.inr (List.mem_map.2 ⟨e, he, rfl⟩))) ht h1
  · obtain ⟨d, hd, rfl⟩ := List.mem_map.1 he
    exact mem_outs' (e := d) (List.mem_append.2 (.inl hd)) ht h1

theorem Way.symm_of {L : Nat → List Nat} (hs : ∀ u v, v ∈ L u → u ∈ L v) {a b : Nat} (h : Way L a b) : Way L b a := by
  induction h with
  | refl => exact Way.refl _
  | step _ hx ih => exact ((Way.refl _).step (hs _ _ hx)).trans ih

theorem Way.lt {L : Nat → List Nat} {n : Nat} (hL : ∀ v, v < n → ∀ t ∈ L v, t < n) {a b : Nat} (h : Way L a b) (ha : a < n) : b < n := by
  induction h with
  | refl => exact ha
  | step _ hx ih => exact hL _ ih _ hx

/-- The numbers given so far, how many, and what each of the first nodes gets. -/
structure NSt where
  nb : Nat → Int
  cnt : Int

/-- The numbers of parts, in the order of their least nodes; how many there are among the first. -/
structure NumOf (n : Nat) (R : Nat → Nat → Prop) (c : Nat → Int) (cnt : Nat → Int) : Prop where
  zero : cnt 0 = 0
  new : ∀ v, v < n → (∀ u, u < v → ¬ R u v) → c v = cnt v ∧ cnt (v + 1) = cnt v + 1
  old : ∀ v, v < n → ∀ u, u < v → R u v → c v = c u ∧ cnt (v + 1) = cnt v

theorem NumOf.congr {n : Nat} {R R' : Nat → Nat → Prop} {c cnt : Nat → Int} (h : NumOf n R c cnt) (hr : ∀ u v, u < n → v < n → (R u v ↔ R' u v)) : NumOf n R' c cnt :=
  ⟨h.zero, fun v hv hn => h.new v hv (fun u hu r => hn u hu ((hr u v (by omega) hv).1 r)), fun v hv u hu r => h.old v hv u hu ((hr u v (by omega) hv).2 r)⟩

/-- The numbers are from 0 on, each below its count; equal just within a part. -/
theorem NumOf.facts {n : Nat} {R : Nat → Nat → Prop} {c cnt : Nat → Int} (h : NumOf n R c cnt) (symm : ∀ u v, u < n → v < n → R u v → R v u) (trans : ∀ u v x, u < n → v < n → x < n → R u v → R v x → R u x) (refl : ∀ u, u < n → R u u) :
    ∀ v, v ≤ n → (0 ≤ cnt v ∧ cnt v ≤ (v : Int)) ∧ (∀ u, u < v → 0 ≤ c u ∧ c u < cnt v) ∧ ∀ u x, u < v → x < v → (c u = c x ↔ R u x) := by
  intro v
  induction v with
  | zero => intro _; exact ⟨⟨by rw [h.zero]; omega, by rw [h.zero]; omega⟩, fun u hu => absurd hu (Nat.not_lt_zero _), fun u x hu => absurd hu (Nat.not_lt_zero _)⟩
  | succ v ih =>
    intro hv
    obtain ⟨i0, i1, i2⟩ := ih (by omega)
    by_cases hx : ∃ u, u < v ∧ R u v
    · obtain ⟨w, hw, hr⟩ := hx
      have a := h.old v (by omega) w hw hr
      refine ⟨by rw [a.2]; omega, fun u hu => ?_, fun u x hu hx => ?_⟩
      · rw [a.2]
        by_cases e : u = v
        · rw [e, a.1]; exact i1 w hw
        · exact i1 u (by omega)
      · by_cases eu : u = v
        · by_cases ex : x = v
          · rw [eu, ex]; exact ⟨fun _ => refl v (by omega), fun _ => rfl⟩
          · rw [eu, a.1, i2 w x hw (by omega)]
            exact ⟨fun t => trans v w x (by omega) (by omega) (by omega) (symm w v (by omega) (by omega) hr) t, fun t => trans w v x (by omega) (by omega) (by omega) hr t⟩
        · by_cases ex : x = v
          · rw [ex, a.1, i2 u w (by omega) hw]
            exact ⟨fun t => trans u w v (by omega) (by omega) (by omega) t hr, fun t => trans u v w (by omega) (by omega) (by omega) t (symm w v (by omega) (by omega) hr)⟩
          · exact i2 u x (by omega) (by omega)
    · have hn : ∀ u, u < v → ¬ R u v := fun u hu hr => hx ⟨u, hu, hr⟩
      have a := h.new v (by omega) hn
      refine ⟨by rw [a.2]; omega, fun u hu => ?_, fun u x hu hx => ?_⟩
      · rw [a.2]
        by_cases e : u = v
        · rw [e, a.1]; omega
        · have := i1 u (by omega); omega
      · by_cases eu : u = v
        · by_cases ex : x = v
          · rw [eu, ex]; exact ⟨fun _ => refl v (by omega), fun _ => rfl⟩
          · have := i1 x (by omega)
            rw [eu, a.1]
            exact ⟨fun t => by omega, fun t => absurd (symm v x (by omega) (by omega) t) (hn x (by omega))⟩
        · by_cases ex : x = v
          · have := i1 u (by omega)
            rw [ex, a.1]
            exact ⟨fun t => by omega, fun t => absurd t (hn u (by omega))⟩
          · exact i2 u x (by omega) (by omega)

end Go.Proofs.YtpdppjngbbkbbaaDoor
