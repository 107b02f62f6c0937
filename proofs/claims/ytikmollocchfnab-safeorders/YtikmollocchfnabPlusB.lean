/- The document's sum of numbers of any length, where the signs differ; and the sum of any two. -/
import Derived.Test.YtikmollocchfnabPlusA
import Derived.Deep.DeepCutAuto
namespace Go.Proofs.Ytikmollocchfnab
open Go.RowKit

/-- Ahead of the loop: the greater number lies in the first box. -/
structure SubW (w : World) (z : Int) (mA : Bool) (aA : Option Addr) (nA cA : Nat) (dA : List Nat) (aB : Option Addr) (nB cB : Nat) (dB : List Nat) (wc : World) : Prop where
  q1 : wc.cell? ⟨w.heap.size, 0, none⟩ = some (.bool mA)
  q2 : wc.cell? ⟨w.heap.size, 1, none⟩ = some (.slice aA nA cA)
  q4 : wc.cell? ⟨w.heap.size + 1, 1, none⟩ = some (.slice aB nB cB)
  q5 : wc.cell? ⟨w.heap.size + 1 + 1, 0, none⟩ = some (.bool false)
  q6 : wc.cell? ⟨w.heap.size + 1 + 1, 1, none⟩ = some (.slice none 0 0)
  q7 : wc.frozen? ⟨w.heap.size + 1 + 1, 0, none⟩ = false
  q8 : wc.frozen? ⟨w.heap.size + 1 + 1, 1, none⟩ = false
  q9 : w.heap.size + 3 ≤ wc.heap.size
  kept : Kept w wc
  ra : Row wc aA nA cA dA
  rb : Row wc aB nB cB dB
  ka : Dg.Canon dA
  kb : Dg.Canon dB
  la : nA ≤ 1000
  le : Dg.val dB ≤ Dg.val dA
  hz : z = if mA then -((Dg.val dA - Dg.val dB : Nat) : Int) else ((Dg.val dA - Dg.val dB : Nat) : Int)

/-- What the round of the difference keeps. -/
structure SubRel (wc : World) (dA dB : List Nat) (k cc : Nat) (ds : List Nat) (v : Value) (wr : World) : Prop where
  kN : k ≤ dA.length
  c1 : cc ≤ 1
  len : ds.length = k
  ok : Dg.Ok ds
  val : Dg.val ds + Dg.val (dB.take k) = Dg.val (dA.take k) + 65536 ^ k * cc
  own : wr.ownsRow wc.heap.size 32 1 v k (vals ds)
  kept : Kept wc wr

theorem SubRel.step {wc wr w1 : World} {dA dB : List Nat} {k cc : Nat} {ds : List Nat} {v v' : Value} (h : SubRel wc dA dB k cc ds v wr) (ka : Dg.Ok dA) (kb : Dg.Ok dB) (hk : k < dA.length)
    (own : w1.ownsRow wc.heap.size 32 1 v' (k + 1) (vals ds ++ [.int .u64 (((dA.getD k 0 + 65536 - dB.getD k 0 - cc) % 65536 : Nat) : Int)])) (grow : ∃ o, (wr.alloc o).grownBy w1 v.ownBlock) :
    SubRel wc dA dB (k + 1) (1 - (dA.getD k 0 + 65536 - dB.getD k 0 - cc) / 65536) (ds ++ [(dA.getD k 0 + 65536 - dB.getD k 0 - cc) % 65536]) v' w1 := by
  have h1 := ka k
  have h2 := kb k
  have h3 := h.c1
  refine ⟨by omega, by omega, by simp [h.len], Dg.ok_snoc h.ok (by omega), ?_, by rw [← vals_snoc]; exact own, ?_⟩
  · rw [Dg.val_snoc, h.len, Nat.pow_succ, Dg.val_take_step, Dg.val_take_step]
    rcases Dg.less_step (65536 ^ k) (Dg.val (dA.take k)) (Dg.val (dB.take k)) (Dg.val ds) (dA.getD k 0) (dB.getD k 0) cc h2 h3 h.val with h4 | h4
    · exact h4
    · omega
  · obtain ⟨o, hg⟩ := grow
    have hk := h.kept.alloc o
    exact Below.grown hk hg hk.size fun j hj => (h.own.lt j hj).1

theorem SubRel.done {wc wr : World} {dA dB : List Nat} {k cc : Nat} {ds : List Nat} {v : Value} (h : SubRel wc dA dB k cc ds v wr) (ka : Dg.Canon dA) (kb : Dg.Canon dB) (hl : dA.length ≤ k) (hle : Dg.val dB ≤ Dg.val dA) : Dg.val ds = Dg.val dA - Dg.val dB := by
  have hlen : dB.length ≤ dA.length := Nat.le_of_not_lt fun hlt => by have := Dg.len_lt ka kb hlt; omega
  have hv := h.val
  rw [Dg.val_take_all dA k hl, Dg.val_take_all dB k (by omega)] at hv
  have h2 := Dg.val_lt h.ok
  rw [h.len] at h2
  have hc : cc = 0 := by
    rcases Nat.eq_zero_or_pos cc with h0 | h0
    · exact h0
    · have h4 : 65536 ^ k * 1 ≤ 65536 ^ k * cc := Nat.mul_le_mul_left _ h0
      omega
  rw [hc] at hv
  omega

theorem mask16s (x b c : Nat) (hx : x < 65536) (hb : b < 65536) (hc : c ≤ 1) : bits .and .u64 ((x : Int) + 65536 - (b : Int) - (c : Int)) 65535 = ((x : Int) + 65536 - (b : Int) - (c : Int)) % 65536 := by
  have := mask16 (x + 65536 - b - c) (by omega)
  rw [show ((x + 65536 - b - c : Nat) : Int) = (x : Int) + 65536 - (b : Int) - (c : Int) from by omega] at this
  rw [this]
  omega

/-- The world behind the exchange of the two boxes. -/
def swapW (w : World) (m1 m2 : Bool) (ao bo : Option Addr) (n1 c1 n2 c2 n : Nat) : World :=
  (((((((((w.alloc (Obj.cells #[Value.bool m1, Value.slice ao n1 c1] 49)).alloc (Obj.cells #[Value.bool m2, Value.slice bo n2 c2] 49)).alloc (Obj.cells #[Value.bool false, Value.slice none 0 0] 49)).drewN n).setCell ⟨w.heap.size, 0, none⟩ (Value.bool m2)).setCell ⟨w.heap.size, 1, none⟩ (Value.slice bo n2 c2)).setCell ⟨w.heap.size + 1, 0, none⟩ (Value.bool m1)).setCell ⟨w.heap.size + 1, 1, none⟩ (Value.slice ao n1 c1)).alloc (Obj.cells #[Value.bool m1, Value.slice ao n1 c1] 49))

theorem swapW_kept (w : World) (m1 m2 : Bool) (ao bo : Option Addr) (n1 c1 n2 c2 n : Nat) : Kept w (swapW w m1 m2 ao bo n1 c1 n2 c2 n) :=
  ((((((plusW_kept w m1 m2 ao bo n1 c1 n2 c2).drewN n).setCell (Nat.le_refl _) _).setCell (Nat.le_refl _) _).setCell (Nat.le_succ _) _).setCell (Nat.le_succ _) _).alloc _

theorem swapW_sub (w : World) (z : Int) (m1 m2 : Bool) (ao bo : Option Addr) (n1 c1 n2 c2 n : Nat) (da db : List Nat) (ra : Row w ao n1 c1 da) (rb : Row w bo n2 c2 db) (ka : Dg.Canon da) (kb : Dg.Canon db) (ln2 : n2 ≤ 1000) (le : Dg.val da ≤ Dg.val db)
    (hz : z = if m2 then -((Dg.val db - Dg.val da : Nat) : Int) else ((Dg.val db - Dg.val da : Nat) : Int)) : SubW w z m2 bo n2 c2 db ao n1 c1 da (swapW w m1 m2 ao bo n1 c1 n2 c2 n) := by
  have hk := swapW_kept w m1 m2 ao bo n1 c1 n2 c2 n
  have e1 : ∀ (X : World) (q : Addr) (v : Value), (X.drewN n).setCell q v = (X.setCell q v).drewN n := fun _ _ _ => rfl
  have e2 : ∀ (X : World) (o : Obj), (X.drewN n).alloc o = (X.alloc o).drewN n := fun _ _ => rfl
  refine ⟨?_, ?_, ?_, ?_, ?_, ?_, ?_, ?_, hk, rb.kept hk, ra.kept hk, kb, ka, ln2, le, hz⟩
  all_goals simp [swapW, e1, e2, go_sem]

theorem plusW_sub (w : World) (z : Int) (m1 m2 : Bool) (ao bo : Option Addr) (n1 c1 n2 c2 n : Nat) (da db : List Nat) (ra : Row w ao n1 c1 da) (rb : Row w bo n2 c2 db) (ka : Dg.Canon da) (kb : Dg.Canon db) (ln1 : n1 ≤ 1000) (le : Dg.val db ≤ Dg.val da)
    (hz : z = if m1 then -((Dg.val da - Dg.val db : Nat) : Int) else ((Dg.val da - Dg.val db : Nat) : Int)) : SubW w z m1 ao n1 c1 da bo n2 c2 db ((plusW w m1 m2 ao bo n1 c1 n2 c2).drewN n) := by
  have hk := (plusW_kept w m1 m2 ao bo n1 c1 n2 c2).drewN n
  refine ⟨?_, ?_, ?_, ?_, ?_, ?_, ?_, ?_, hk, ra.kept hk, rb.kept hk, ka, kb, ln1, le, hz⟩
  all_goals simp [plusW, go_sem]

theorem diff_val {m1 m2 : Bool} (hm : (m1 == m2) = false) (a b : Nat) (z : Int) (hz : z = (if m1 then -(a : Int) else (a : Int)) + (if m2 then -(b : Int) else (b : Int))) :
    (b ≤ a → z = if m1 then -((a - b : Nat) : Int) else ((a - b : Nat) : Int)) ∧ (a ≤ b → z = if m2 then -((b - a : Nat) : Int) else ((b - a : Nat) : Int)) := by
  cases m1 <;> cases m2 <;> simp at hm hz ⊢ <;> omega

/-- How great a number may be. -/
def LIM : Nat := 65536 ^ 20
theorem len_lim {ds : List Nat} (h : Dg.Canon ds) (hv : Dg.val ds < LIM) : ds.length ≤ 20 := Dg.canon_len h hv

end Go.Proofs.Ytikmollocchfnab
