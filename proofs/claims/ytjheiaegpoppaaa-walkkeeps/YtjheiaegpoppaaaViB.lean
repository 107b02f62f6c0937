/- Visit: what its stack of open nodes comes to; its steps in memory. -/
import Derived.Test.YtjheiaegpoppaaaViA
namespace Go.Proofs.Ytjheiaegpoppaaa
open Go.RowKit

/-- What comes of it when all open nodes are left. -/
def fin (L : Nat → List Nat) (n : Nat) (rem : Nat → List Nat) : List Nat → Tm → Tm
  | [], s => s
  | v :: S, s => fin L n rem S ((vis L n s (rem v)).lv v)

theorem fin_congr {L : Nat → List Nat} {n : Nat} {rem rem' : Nat → List Nat} : ∀ (S : List Nat) (s : Tm), (∀ v ∈ S, rem v = rem' v) → fin L n rem S s = fin L n rem' S s := by
  intro S
  induction S with
  | nil => intro s _; rfl
  | cons v S ih =>
    intro s h
    show fin L n rem S _ = fin L n rem' S _
    rw [h v (by simp)]
    exact ih _ (fun u hu => h u (by simp [hu]))

structure DInv (L : Nat → List Nat) (n : Nat) (rem : Nat → List Nat) (st : List Nat) (s : Tm) (T : Tm) : Prop where
  fin : fin L n rem st s = T
  nodup : st.Nodup
  lt : ∀ v ∈ st, v < n
  set : ∀ v ∈ st, 0 ≤ s.pre v
  new : ∀ v, v < n → s.pre v < 0 → rem v = L v
  bound : s.clk + 2 * Un n s + st.length ≤ 2 * n
  lts : ∀ v, v < n → ∀ t ∈ rem v, t < n

/-- What is left behind the first edge of v. -/
def cutAt (rem : Nat → List Nat) (v : Nat) (l : List Nat) : Nat → List Nat := fun u => if u = v then l else rem u

theorem cutAt_lt {rem : Nat → List Nat} {n v t : Nat} {l : List Nat} (h : ∀ v, v < n → ∀ t ∈ rem v, t < n) (hr : rem v = t :: l) : ∀ u, u < n → ∀ x ∈ cutAt rem v l u, x < n := fun u hu x hx => by
  unfold cutAt at hx
  by_cases e : u = v
  · subst e
    rw [if_pos rfl] at hx
    exact h u hu x (by rw [hr]; simp [hx])
  · rw [if_neg e] at hx
    exact h u hu x hx

theorem DInv.enter {L : Nat → List Nat} {n : Nat} {rem : Nat → List Nat} {v : Nat} {S : List Nat} {s T : Tm} (hL : ∀ v, v < n → ∀ t ∈ L v, t < n) (h : DInv L n rem (v :: S) s T) {t : Nat} {l : List Nat} (hr : rem v = t :: l) (ht : t < n) (hp : s.pre t < 0) : DInv L n (cutAt rem v l) (t :: v :: S) (s.ent t) T := by
  have hv := h.set v (by simp)
  have hne : t ≠ v := fun e => by rw [e] at hp; omega
  have hvS : v ∉ S := (List.nodup_cons.1 h.nodup).1
  have htS : t ∉ v :: S := fun hm => by have := h.set t hm; omega
  have hu := Un.ent (n := n) ht hp
  have hb := h.bound
  refine ⟨?_, List.nodup_cons.2 ⟨htS, h.nodup⟩, fun u hu => ?_, fun u hu => ?_, fun u hu hp' => ?_, ?_, cutAt_lt h.lts hr⟩
  · rw [← h.fin]
    show Go.Proofs.Ytjheiaegpoppaaa.fin L n (cutAt rem v l) S ((vis L n ((vis L n (s.ent t) (cutAt rem v l t)).lv t) (cutAt rem v l v)).lv v) = Go.Proofs.Ytjheiaegpoppaaa.fin L n rem S ((vis L n s (rem v)).lv v)
    have e1 : cutAt rem v l t = L t := by unfold cutAt; rw [if_neg hne]; exact h.new t ht hp
    have e2 : cutAt rem v l v = l := by unfold cutAt; rw [if_pos rfl]
    rw [e1, e2, hr, vis_new hL ht hp]
    exact fin_congr S _ (fun u hu => by have ne : ¬ u = v := fun e => hvS (e ▸ hu); unfold cutAt; rw [if_neg ne])
  · rcases List.mem_cons.1 hu with rfl | hu
    · exact ht
    · exact h.lt u hu
  · by_cases e : u = t
    · subst e; simp [Tm.ent]
    · rcases List.mem_cons.1 hu with e' | hu
      · exact absurd e' e
      · have := h.set u hu
        simp [Tm.ent, e, this]
  · have e : u ≠ t := fun e => by subst e; simp [Tm.ent] at hp'; omega
    have hp2 : s.pre u < 0 := by simpa [Tm.ent, e] using hp'
    have e2 : u ≠ v := fun e => by subst e; omega
    unfold cutAt
    rw [if_neg e2]
    exact h.new u hu hp2
  · simp only [List.length_cons] at hb ⊢
    have : (s.ent t).clk = s.clk + 1 := rfl
    omega

theorem DInv.skip {L : Nat → List Nat} {n : Nat} {rem : Nat → List Nat} {v : Nat} {S : List Nat} {s T : Tm} (h : DInv L n rem (v :: S) s T) {t : Nat} {l : List Nat} (hr : rem v = t :: l) (hp : ¬ s.pre t < 0) : DInv L n (cutAt rem v l) (v :: S) s T := by
  have hv := h.set v (by simp)
  have hvS : v ∉ S := (List.nodup_cons.1 h.nodup).1
  refine ⟨?_, h.nodup, h.lt, h.set, fun u hu hp' => ?_, h.bound, cutAt_lt h.lts hr⟩
  · rw [← h.fin]
    show Go.Proofs.Ytjheiaegpoppaaa.fin L n (cutAt rem v l) S ((vis L n s (cutAt rem v l v)).lv v) = Go.Proofs.Ytjheiaegpoppaaa.fin L n rem S ((vis L n s (rem v)).lv v)
    have e2 : cutAt rem v l v = l := by unfold cutAt; rw [if_pos rfl]
    rw [e2, hr, vis_old hp]
    exact fin_congr S _ (fun u hu => by have ne : ¬ u = v := fun e => hvS (e ▸ hu); unfold cutAt; rw [if_neg ne])
  · have e2 : u ≠ v := fun e => by subst e; omega
    unfold cutAt
    rw [if_neg e2]
    exact h.new u hu hp'

theorem DInv.leave {L : Nat → List Nat} {n : Nat} {rem : Nat → List Nat} {v : Nat} {S : List Nat} {s T : Tm} (h : DInv L n rem (v :: S) s T) (hr : rem v = []) : DInv L n rem S (s.lv v) T := by
  have hb := h.bound
  refine ⟨?_, (List.nodup_cons.1 h.nodup).2, fun u hu => h.lt u (by simp [hu]), fun u hu => h.set u (by simp [hu]), fun u hu hp => h.new u hu hp, ?_, h.lts⟩
  · rw [← h.fin]
    show Go.Proofs.Ytjheiaegpoppaaa.fin L n rem S (s.lv v) = Go.Proofs.Ytjheiaegpoppaaa.fin L n rem S ((vis L n s (rem v)).lv v)
    rw [hr, vis_nil]
  · have e : Un n (s.lv v) = Un n s := rfl
    simp only [List.length_cons] at hb
    have : (s.lv v).clk = s.clk + 1 := rfl
    omega

theorem DInv.start {L : Nat → List Nat} {n : Nat} {rem : Nat → List Nat} {s : Tm} {k : Nat} (hk : k < n) (hp : s.pre k < 0) (hnew : ∀ v, v < n → s.pre v < 0 → rem v = L v) (hb : s.clk + 2 * Un n s ≤ 2 * n) (hlt : ∀ v, v < n → ∀ t ∈ rem v, t < n) : DInv L n rem [k] (s.ent k) ((vis L n (s.ent k) (L k)).lv k) := by
  have hu := Un.ent (n := n) hk hp
  refine ⟨?_, by simp, fun v hv => by simp at hv; omega, fun v hv => by simp at hv; subst hv; simp [Tm.ent], fun u hu hp' => ?_, ?_, hlt⟩
  · show (vis L n (s.ent k) (rem k)).lv k = _
    rw [hnew k hk hp]
  · have e : u ≠ k := fun e => by subst e; simp [Tm.ent] at hp'; omega
    exact hnew u hu (by simpa [Tm.ent, e] using hp')
  · have : (s.ent k).clk = s.clk + 1 := rfl
    simp only [List.length_cons, List.length_nil]
    omega

theorem five_q {gp gq bk bo q : Nat} {k : Nat} (h : k = q) : five gp gq bk bo q k := .inr (.inr (.inr (.inr h)))

/-- The first edge of v is taken off. -/
theorem VAt.cut {W w : World} {gp gq bk bo q n : Nat} {s : Tm} {st : List Nat} {rem : Nat → List Nat} (h : VAt W w gp gq bk bo q n s st rem) (A : Apart5 W gp gq bk bo q) {v : Nat} {l : List Nat} {sv' : Value} (hs : RemAt W (five gp gq bk bo q) sv' l) :
    VAt W (w.setCell ⟨q, v, none⟩ sv') gp gq bk bo q n s st (cutAt rem v l) := by
  have C : Ch (fun k => k = q) w (w.setCell ⟨q, v, none⟩ sv') := (Ch.refl (fun k => k = q) w).setCell (F := fun k => k = q) (p := ⟨q, v, none⟩) rfl _
  obtain ⟨so, sc, hb, ho⟩ := h.box
  obtain ⟨sv, r, hr⟩ := h.row
  refine ⟨h.ch.trans (C.mono (fun k t => five_q t)), h.pre.ch C A.d15, h.post.ch C A.d25, C.cell h.clk A.d35, (C.frozen (o := 0) (lt_cell h.clk) A.d35).trans h.kz, ⟨so, sc, C.cell hb A.d45, C.owns ho (fun k e t => by have := (ho.lt k e).1; have := A.l5; omega)⟩, (C.frozen (o := 0) (lt_cell hb) A.d45).trans h.oz, ⟨_, r.set v sv', fun u hu => ?_⟩⟩
  unfold cutAt
  by_cases e : u = v
  · subst e; rw [if_pos rfl, if_pos rfl]; exact hs
  · rw [if_neg e, if_neg e]; exact hr u hu

/-- The deepest node is left. -/
theorem VAt.leave {W w : World} {gp gq bk bo q n : Nat} {s : Tm} {v : Nat} {S : List Nat} {rem : Nat → List Nat} (h : VAt W w gp gq bk bo q n s (v :: S) rem) (A : Apart5 W gp gq bk bo q) {g sc : Nat} (hb : w.cell? ⟨bo, 0, none⟩ = some (.slice (some ⟨g, 0, none⟩) (S.length + 1) sc)) :
    VAt W (((w.setCell ⟨gq, v, none⟩ (.int .i64 (s.clk : Int))).setCell ⟨bk, 0, none⟩ (.int .i64 ((s.clk : Int) + 1))).setCell ⟨bo, 0, none⟩ (.slice (some ⟨g, 0, none⟩) S.length sc)) gp gq bk bo q n (s.lv v) S rem := by
  have C1 : Ch (fun k => k = gq) w (w.setCell ⟨gq, v, none⟩ (.int .i64 (s.clk : Int))) := (Ch.refl (fun k => k = gq) w).setCell (F := fun k => k = gq) (p := ⟨gq, v, none⟩) rfl _
  have C2 : Ch (fun k => k = bk) (w.setCell ⟨gq, v, none⟩ (.int .i64 (s.clk : Int))) ((w.setCell ⟨gq, v, none⟩ (.int .i64 (s.clk : Int))).setCell ⟨bk, 0, none⟩ (.int .i64 ((s.clk : Int) + 1))) := (Ch.refl (fun k => k = bk) _).setCell (F := fun k => k = bk) (p := ⟨bk, 0, none⟩) rfl _
  have C3 : Ch (fun k => k = bo) ((w.setCell ⟨gq, v, none⟩ (.int .i64 (s.clk : Int))).setCell ⟨bk, 0, none⟩ (.int .i64 ((s.clk : Int) + 1))) (((w.setCell ⟨gq, v, none⟩ (.int .i64 (s.clk : Int))).setCell ⟨bk, 0, none⟩ (.int .i64 ((s.clk : Int) + 1))).setCell ⟨bo, 0, none⟩ (.slice (some ⟨g, 0, none⟩) S.length sc)) := (Ch.refl (fun k => k = bo) _).setCell (F := fun k => k = bo) (p := ⟨bo, 0, none⟩) rfl _
  obtain ⟨so', sc', hb', ho⟩ := h.box
  rw [hb] at hb'
  simp only [List.length_cons, Option.some.injEq, Value.slice.injEq, true_and] at hb'
  obtain ⟨rfl, rfl⟩ := hb'
  obtain ⟨sv, r, hr⟩ := h.row
  have hgl := (ho.lt g rfl).1
  have k1 := C1.cell h.clk (fun t => A.d23 t.symm)
  have kz1 := (C1.frozen (o := 0) (lt_cell h.clk) (fun t => A.d23 t.symm)).trans h.kz
  have k2 := World.cell?_setCell_same _ ⟨bk, 0, none⟩ (.int .i64 ((s.clk : Int) + 1)) k1
  have kz2 : ((w.setCell ⟨gq, v, none⟩ (.int .i64 (s.clk : Int))).setCell ⟨bk, 0, none⟩ (.int .i64 ((s.clk : Int) + 1))).frozen? ⟨bk, 0, none⟩ = false := by simpa [go_sem] using kz1
  have b2 := C2.cell (C1.cell hb (fun t => A.d24 t.symm)) (fun t => A.d34 t.symm)
  have bz2 := ((C2.frozen (o := 0) (lt_cell (C1.cell hb (fun t => A.d24 t.symm))) (fun t => A.d34 t.symm)).trans (C1.frozen (o := 0) (lt_cell hb) (fun t => A.d24 t.symm))).trans h.oz
  have ck : ((s.lv v).clk : Int) = (s.clk : Int) + 1 := by simp [Tm.lv]
  refine ⟨((h.ch.trans (C1.mono (fun k t => .inr (.inl t)))).trans (C2.mono (fun k t => .inr (.inr (.inl t))))).trans (C3.mono (fun k t => .inr (.inr (.inr (.inl t))))), ((h.pre.ch C1 A.d12).ch C2 A.d13).ch C3 A.d14, ?_, ?_, ?_, ⟨some ⟨g, 0, none⟩, sc, World.cell?_setCell_same _ _ _ b2, ?_⟩, ?_, ⟨sv, ?_, hr⟩⟩
  · have := (h.post.set v (s.clk : Int)).ch C2 A.d23
    exact World.rowIs.congr (this.ch C3 A.d24) (fun j _ => rfl)
  · rw [ck]; exact C3.cell k2 A.d34
  · exact (C3.frozen (o := 0) (lt_cell k2) A.d34).trans kz2
  · have o1 : w.ownsRow W.heap.size 3 1 (.slice (some ⟨g, 0, none⟩) (S.length + 1) sc) (S.length + 1) (jvals (qz S.reverse) ++ [.int .i64 (v : Int)]) := by
      rw [List.reverse_cons, qz_snoc, ← jvals_snoc] at ho
      exact ho
    have o2 := ownsRow_pop (xs := jvals (qz S.reverse)) (last := [.int .i64 (v : Int)]) (n := S.length) (by simp [jvals, qz]) o1
    exact C3.owns (C2.owns (C1.owns o2 (fun k e t => by simp [Value.ownBlock] at e; have := A.l2; omega)) (fun k e t => by simp [Value.ownBlock] at e; have := A.l3; omega)) (fun k e t => by simp [Value.ownBlock] at e; have := A.l4; omega)
  · simpa [go_sem] using bz2
  · have r1 := r.of_block (C1.block q r.lt (fun t => A.d25 t.symm))
    have r2 := r1.of_block (C2.block q r1.lt (fun t => A.d35 t.symm))
    exact r2.of_block (C3.block q r2.lt (fun t => A.d45 t.symm))
end Go.Proofs.Ytjheiaegpoppaaa
