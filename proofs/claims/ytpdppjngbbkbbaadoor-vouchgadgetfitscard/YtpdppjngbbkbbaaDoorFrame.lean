/- What has changed in memory: the frame of an object. Nothing of the program. -/
import Derived.Test.YtpdppjngbbkbbaaDoorBase
import Derived.Laws.AppendOwn
import Derived.Laws.OwnMore
import Derived.OwnWalk
namespace Go.Proofs.YtpdppjngbbkbbaaDoor
open Go.RowKit

/-- What has changed lies in the blocks of F or is new. -/
structure Ch (F : Nat → Prop) (w w' : World) : Prop where
  os : w'.os = w.os
  tape : w'.tape = w.tape
  output : w'.output = w.output
  size : w.heap.size ≤ w'.heap.size
  block : ∀ k, k < w.heap.size → ¬ F k → w'.heap[k]? = w.heap[k]?

theorem Ch.refl (F : Nat → Prop) (w : World) : Ch F w w := ⟨rfl, rfl, rfl, Nat.le_refl _, fun _ _ _ => rfl⟩
theorem Ch.trans {F : Nat → Prop} {a b c : World} (h : Ch F a b) (k : Ch F b c) : Ch F a c :=
  ⟨k.os.trans h.os, k.tape.trans h.tape, k.output.trans h.output, Nat.le_trans h.size k.size, fun i hi hf => (k.block i (Nat.lt_of_lt_of_le hi h.size) hf).trans (h.block i hi hf)⟩
/-- What came new in between does not matter. -/
theorem Ch.trans' {F G : Nat → Prop} {a b c : World} (h : Ch F a b) (k : Ch G b c) (hG : ∀ i, G i → F i ∨ a.heap.size ≤ i) : Ch F a c :=
  ⟨k.os.trans h.os, k.tape.trans h.tape, k.output.trans h.output, Nat.le_trans h.size k.size, fun i hi hf => (k.block i (Nat.lt_of_lt_of_le hi h.size) (fun g => by rcases hG i g with t | t; exact hf t; omega)).trans (h.block i hi hf)⟩
theorem Ch.of_kept {F : Nat → Prop} {w w' : World} (h : Kept w w') : Ch F w w' := ⟨h.os, h.tape, h.output, h.size, fun k hk _ => h.block k hk⟩
theorem Ch.of_grown {F : Nat → Prop} {w w' : World} {row : Option Nat} (h : w.grownBy w' row) (hr : ∀ k, row = some k → F k) : Ch F w w' :=
  ⟨h.os, h.tape, h.output, h.size, fun k hk hf => h.block k hk (fun e => hf (hr k e.symm))⟩
theorem Ch.setCell {F : Nat → Prop} {a w : World} (h : Ch F a w) {p : Addr} (hp : F p.block) (u : Value) : Ch F a (w.setCell p u) :=
  h.trans ⟨rfl, rfl, rfl, by simp [World.setCell], fun k _ hf => Below.heap_setCell _ _ _ _ (fun e => hf (by rw [e]; exact hp))⟩
theorem Ch.drewN {F : Nat → Prop} {a w : World} (h : Ch F a w) (n : Nat) : Ch F a (w.drewN n) := h.trans (.of_kept ((Kept.refl w).drewN n))
theorem Ch.alloc {F : Nat → Prop} {a w : World} (h : Ch F a w) (o : Obj) : Ch F a (w.alloc o) := h.trans (.of_kept ((Kept.refl w).alloc o))
theorem Ch.mono {F G : Nat → Prop} {w w' : World} (h : Ch F w w') (hG : ∀ k, F k → G k) : Ch G w w' := ⟨h.os, h.tape, h.output, h.size, fun k hk hf => h.block k hk (fun t => hf (hG k t))⟩
/-- Old memory is kept where all that may change is newer. -/
theorem Kept.ch {F : Nat → Prop} {W w w' : World} (h : Kept W w) (c : Ch F w w') (hF : ∀ k, F k → W.heap.size ≤ k) : Kept W w' :=
  ⟨c.os.trans h.os, c.tape.trans h.tape, c.output.trans h.output, Nat.le_trans h.size c.size, fun k hk => (c.block k (Nat.lt_of_lt_of_le hk h.size) (fun t => by have := hF k t; omega)).trans (h.block k hk)⟩
theorem Ch.cell {F : Nat → Prop} {w w' : World} (h : Ch F w w') {b o : Nat} {v : Value} (hc : w.cell? ⟨b, o, none⟩ = some v) (hf : ¬ F b) : w'.cell? ⟨b, o, none⟩ = some v :=
  (World.cell?_of_block (a := ⟨b, o, none⟩) (h.block b (World.block_lt_of_cell? w ⟨b, o, none⟩ hc) hf)).trans hc
theorem Ch.frozen {F : Nat → Prop} {w w' : World} (h : Ch F w w') {b o : Nat} (hb : b < w.heap.size) (hf : ¬ F b) : w'.frozen? ⟨b, o, none⟩ = w.frozen? ⟨b, o, none⟩ :=
  World.frozen?_of_block (a := ⟨b, o, none⟩) (h.block b hb hf)
theorem Ch.owns {F : Nat → Prop} {w w' : World} (h : Ch F w w') {base e size n : Nat} {v : Value} {xs : List Value} (ho : w.ownsRow base e size v n xs) (hf : ∀ k, v.ownBlock = some k → ¬ F k) : w'.ownsRow base e size v n xs := by
  refine ⟨ho.1, ?_⟩
  rcases ho.2 with t | ⟨g, cap, cur, h1, h2, h3, h4⟩
  · exact .inl t
  · have hg : g < w.heap.size := (ho.lt g (by rw [h1]; rfl)).2
    exact .inr ⟨g, cap, cur, h1, h2, (h.block g hg (hf g (by rw [h1]; rfl))).trans h3, h4⟩

theorem ownsK {w w' : World} {base e size n : Nat} {v : Value} {xs : List Value} (h : w.ownsRow base e size v n xs) (K : Kept w w') : w'.ownsRow base e size v n xs := (Ch.of_kept (F := fun _ => False) K).owns h (fun _ _ t => t)

end Go.Proofs.YtpdppjngbbkbbaaDoor
