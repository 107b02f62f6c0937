/- A play of edits: what holds of memory between two calls. -/
import Derived.Test.YthefeijgpgcecaaGrQ
namespace Go.Proofs.Ythefeijgpgcecaa
open Go.RowKit

theorem AsideE.fresh {G : Nat → Prop} {B n n' : Nat} {ao ao' : Option Addr} (h : AsideE G ao n) (f : Fresh B ao n ao' n') (hG : ∀ k, G k → k < B) : AsideE G ao' n' := fun hn a ha t => by
  rcases f with ⟨rfl, rfl⟩ | f
  · exact h hn a ha t
  · have := f a ha; have := hG _ t; omega

theorem ERow.lt {w : World} {ao : Option Addr} {n cap : Nat} {es : List Ed} (h : ERow w ao n cap es) : 0 < n → ∀ a, ao = some a → a.block < w.heap.size := fun hn a ha => by
  obtain ⟨b, off, e, hc⟩ := h.cell hn
  rw [ha] at e
  simp only [Option.some.injEq] at e
  subst e
  exact lt_cell (hc 0 hn).1

/-- The two boxes' blocks. -/
def two (b2 b10 : Nat) : Nat → Prop := fun k => k = b2 ∨ k = b10

/-- The net that was forked from, and the graph that it had. -/
structure OldAt (w : World) (F : Nat → Prop) (b2 b10 p po : Nat) (nd0 : Int) (ao0 : Option Addr) (n0 cap0 : Nat) : Prop where
  c0 : w.cell? ⟨b10, 0, none⟩ = some (.int .i64 nd0)
  c1 : w.cell? ⟨b10, 1, none⟩ = some (.slice ao0 n0 cap0)
  z0 : w.frozen? ⟨b10, 0, none⟩ = false
  z1 : w.frozen? ⟨b10, 1, none⟩ = false
  net : po = p ∨ po ≠ p ∧ ∃ F0 xs0, NetF w F0 po nd0 xs0 ∧ xs0.length ≤ 4096 ∧ (∀ k, F0 k → ¬ F k) ∧ (∀ k, F0 k → ¬ two b2 b10 k) ∧ ERow w ao0 n0 cap0 xs0 ∧ AsideE F ao0 n0 ∧ AsideE (two b2 b10) ao0 n0

/-- Between two calls. -/
structure PInv (W w : World) (F : Nat → Prop) (b2 b10 p po : Nat) (nd : Int) (xs : List Ed) (ao : Option Addr) (n cap : Nat) : Prop where
  net : NetF w F p nd xs
  right : Right nd xs
  row : ERow w ao n cap xs
  nil : ao = none → n = 0 ∧ cap = 0
  asF : AsideE F ao n
  asB : AsideE (two b2 b10) ao n
  nF : ∀ k, F k → ¬ two b2 b10 k
  g0 : w.cell? ⟨b2, 0, none⟩ = some (.int .i64 nd)
  g1 : w.cell? ⟨b2, 1, none⟩ = some (.slice ao n cap)
  y0 : w.frozen? ⟨b2, 0, none⟩ = false
  y1 : w.frozen? ⟨b2, 1, none⟩ = false
  lb2 : W.heap.size ≤ b2
  lb10 : W.heap.size ≤ b10
  ne : b2 ≠ b10
  kept : Kept W w
  ge : ∀ k, F k → W.heap.size ≤ k
  old : ∃ nd0 ao0 n0 cap0, OldAt w F b2 b10 p po nd0 ao0 n0 cap0

theorem cell_keptF {w w' : World} (K : Kept w w') {b o : Nat} {v : Value} (h : w.cell? ⟨b, 0, none⟩ = some v) (z : w.frozen? ⟨b, o, none⟩ = false) : w'.frozen? ⟨b, o, none⟩ = false :=
  (Below.frozen (p := ⟨b, o, none⟩) K (World.block_lt_of_cell? w ⟨b, 0, none⟩ h)).trans z

theorem OldAt.kept {w w' : World} {F : Nat → Prop} {b2 b10 p po n0 cap0 : Nat} {nd0 : Int} {ao0 : Option Addr} (h : OldAt w F b2 b10 p po nd0 ao0 n0 cap0) (K : Kept w w') : OldAt w' F b2 b10 p po nd0 ao0 n0 cap0 :=
  ⟨K.cell h.c0, K.cell h.c1, cell_keptF K h.c0 h.z0, cell_keptF K h.c0 h.z1, by
    rcases h.net with t | ⟨t, F0, xs0, N, l, d, e, r, a, b⟩
    · exact .inl t
    · exact .inr ⟨t, F0, xs0, N.kept K, l, d, e, r.kept K, a, b⟩⟩

theorem PInv.keptBy {W w w' : World} {F : Nat → Prop} {b2 b10 p po n cap : Nat} {nd : Int} {xs : List Ed} {ao : Option Addr} (h : PInv W w F b2 b10 p po nd xs ao n cap) (K : Kept w w') : PInv W w' F b2 b10 p po nd xs ao n cap := by
  obtain ⟨nd0, ao0, n0, cap0, o⟩ := h.old
  exact ⟨h.net.kept K, h.right, h.row.kept K, h.nil, h.asF, h.asB, h.nF, K.cell h.g0, K.cell h.g1, cell_keptF K h.g0 h.y0, cell_keptF K h.g0 h.y1, h.lb2, h.lb10, h.ne, h.kept.trans K, h.ge, nd0, ao0, n0, cap0, o.kept K⟩

/-- Behind an edit and the store of the graph that it makes. -/
theorem PInv.edit {W w w5 w6 : World} {F : Nat → Prop} {b2 b10 p po n cap m' cap' : Nat} {nd n' : Int} {xs zs : List Ed} {ao ao' : Option Addr} (h : PInv W w F b2 b10 p po nd xs ao n cap)
    (E : EditPost w F p ao n w5 n' zs ao' m' cap') (R : Right n' zs) (K : Kept w5 w6) :
    ∃ F', PInv W ((w6.setCell ⟨b2, 0, none⟩ (.int .i64 n')).setCell ⟨b2, 1, none⟩ (.slice ao' m' cap')) F' b2 b10 p po n' zs ao' m' cap' := by
  obtain ⟨F', N5, A5, L5⟩ := E.ex
  obtain ⟨nd0, ao0, n0, cap0, o⟩ := h.old
  have lb2 : b2 < w.heap.size := World.block_lt_of_cell? w ⟨b2, 0, none⟩ h.g0
  have lb10 : b10 < w.heap.size := World.block_lt_of_cell? w ⟨b10, 0, none⟩ o.c0
  have l2 : ∀ k, two b2 b10 k → k < w.heap.size := fun k t => by rcases t with t | t <;> omega
  have nF2 : ¬ F b2 := fun t => h.nF _ t (.inl rfl)
  have nF10 : ¬ F b10 := fun t => h.nF _ t (.inr rfl)
  have nF' : ∀ k, F' k → ¬ two b2 b10 k := fun k t s => by
    rcases L5 k t with t | t
    · exact h.nF k t s
    · have := l2 k s; omega
  have B5 : AsideE (two b2 b10) ao' m' := h.asB.fresh E.fresh l2
  have C5 : Ch F w w6 := E.ch.trans (.of_kept K)
  have C6 : Ch (fun x => x = b2) w6 ((w6.setCell ⟨b2, 0, none⟩ (.int .i64 n')).setCell ⟨b2, 1, none⟩ (.slice ao' m' cap')) :=
    ((Ch.refl (fun x => x = b2) w6).setCell (F := fun x => x = b2) (p := ⟨b2, 0, none⟩) rfl _).setCell (F := fun x => x = b2) (p := ⟨b2, 1, none⟩) rfl _
  have g0 := C5.cell h.g0 nF2
  have g1 := C5.cell h.g1 nF2
  obtain ⟨u1, u2, u3, u4⟩ := box2w g0 g1 (.int .i64 n') (.slice ao' m' cap')
  have y0 : ((w6.setCell ⟨b2, 0, none⟩ (.int .i64 n')).setCell ⟨b2, 1, none⟩ (.slice ao' m' cap')).frozen? ⟨b2, 0, none⟩ = false := by
    simpa [go_sem] using (C5.frozen (o := 0) lb2 nF2).trans h.y0
  have y1 : ((w6.setCell ⟨b2, 0, none⟩ (.int .i64 n')).setCell ⟨b2, 1, none⟩ (.slice ao' m' cap')).frozen? ⟨b2, 1, none⟩ = false := by
    simpa [go_sem] using (C5.frozen (o := 1) lb2 nF2).trans h.y1
  have sub : AsideE (fun x => x = b2) ao' m' := fun hm a ha t => B5 hm a ha (.inl t)
  have n10 : ¬ b10 = b2 := fun t => h.ne t.symm
  have l10' : b10 < w6.heap.size := Nat.lt_of_lt_of_le lb10 C5.size
  refine ⟨F', (N5.kept K).far C6 (fun k hk e => nF' k hk (.inl e)), R, (E.row.kept K).ch C6 sub, E.nil, A5, B5, nF', u3, u4, y0, y1, h.lb2, h.lb10, h.ne, (h.kept.ch C5 h.ge).ch C6 (fun k t => by have := h.lb2; omega), fun k t => ?_, nd0, ao0, n0, cap0, C6.cell (C5.cell o.c0 nF10) n10, C6.cell (C5.cell o.c1 nF10) n10, (C6.frozen (o := 0) l10' n10).trans ((C5.frozen (o := 0) lb10 nF10).trans o.z0), (C6.frozen (o := 1) l10' n10).trans ((C5.frozen (o := 1) lb10 nF10).trans o.z1), ?_⟩
  · rcases L5 k t with t | t
    · exact h.ge k t
    · have := h.kept.size; omega
  · rcases o.net with t | ⟨t, F0, xs0, N, l, d, e, r, a, b⟩
    · exact .inl t
    · refine .inr ⟨t, F0, xs0, (N.far C5 d).far C6 (fun k hk s => e k hk (.inl s)), l, fun k hk s => ?_, e, (r.ch C5 a).ch C6 (fun hm x hx s => b hm x hx (.inl s)), fun hm x hx s => ?_, b⟩
      · rcases L5 k s with s | s
        · exact d k hk s
        · have := N.lt k hk; omega
      · rcases L5 _ s with s | s
        · exact a hm x hx s
        · have := r.lt hm x hx; omega

/-- Behind the store of the graph ahead of a fork, and the fork. -/
theorem PInv.fork {W w w3 : World} {F : Nat → Prop} {b2 b10 p po q n cap : Nat} {nd : Int} {xs : List Ed} {ao : Option Addr} (h : PInv W w F b2 b10 p po nd xs ao n cap)
    (NQ : NetAt w3 ((w.setCell ⟨b10, 0, none⟩ (.int .i64 nd)).setCell ⟨b10, 1, none⟩ (.slice ao n cap)).heap.size q nd xs) (K : Kept ((w.setCell ⟨b10, 0, none⟩ (.int .i64 nd)).setCell ⟨b10, 1, none⟩ (.slice ao n cap)) w3) :
    ∃ F', PInv W w3 F' b2 b10 q p nd xs ao n cap := by
  obtain ⟨nd0, ao0, n0, cap0, o⟩ := h.old
  obtain ⟨F', N', L'⟩ := NQ.toF
  have hs : ((w.setCell ⟨b10, 0, none⟩ (.int .i64 nd)).setCell ⟨b10, 1, none⟩ (.slice ao n cap)).heap.size = w.heap.size := by simp [World.setCell]
  rw [hs] at L'
  have lb2 : b2 < w.heap.size := World.block_lt_of_cell? w ⟨b2, 0, none⟩ h.g0
  have lb10 : b10 < w.heap.size := World.block_lt_of_cell? w ⟨b10, 0, none⟩ o.c0
  have C1 : Ch (fun x => x = b10) w ((w.setCell ⟨b10, 0, none⟩ (.int .i64 nd)).setCell ⟨b10, 1, none⟩ (.slice ao n cap)) :=
    ((Ch.refl (fun x => x = b10) w).setCell (F := fun x => x = b10) (p := ⟨b10, 0, none⟩) rfl _).setCell (F := fun x => x = b10) (p := ⟨b10, 1, none⟩) rfl _
  have C3 : Ch (fun x => x = b10) w w3 := C1.trans (.of_kept K)
  obtain ⟨u1, u2, u3, u4⟩ := box2w o.c0 o.c1 (.int .i64 nd) (.slice ao n cap)
  have z0 : ((w.setCell ⟨b10, 0, none⟩ (.int .i64 nd)).setCell ⟨b10, 1, none⟩ (.slice ao n cap)).frozen? ⟨b10, 0, none⟩ = false := by simpa [go_sem] using o.z0
  have z1 : ((w.setCell ⟨b10, 0, none⟩ (.int .i64 nd)).setCell ⟨b10, 1, none⟩ (.slice ao n cap)).frozen? ⟨b10, 1, none⟩ = false := by simpa [go_sem] using o.z1
  have n2 : ¬ b2 = b10 := h.ne
  have d' : ∀ k, F k → ¬ F' k := fun k t s => by have := h.net.lt k t; have := L' k s; omega
  have row3 := h.row.ch C3 (fun hm x hx s => h.asB hm x hx (.inr s))
  have asF' : AsideE F' ao n := fun hm x hx s => by have := h.row.lt hm x hx; have := L' _ s; omega
  have hpq : p ≠ q := fun t => by
    have := h.net.lt p h.net.own
    have := L' q N'.own
    omega
  have N3 := h.net.far C3 (fun k hk e => h.nF k hk (.inr e))
  refine ⟨F', N', h.right, row3, h.nil, asF', h.asB, fun k t s => ?_, C3.cell h.g0 n2, C3.cell h.g1 n2, (C3.frozen (o := 0) lb2 n2).trans h.y0, (C3.frozen (o := 1) lb2 n2).trans h.y1, h.lb2, h.lb10, h.ne, h.kept.ch C3 (fun k t => by have := h.lb10; omega), fun k t => by have := L' k t; have := h.kept.size; omega, nd, ao, n, cap, K.cell u3, K.cell u4, cell_keptF K u3 z0, cell_keptF K u3 z1, .inr ⟨hpq, F, xs, N3, h.right.len, d', h.nF, row3, asF', h.asB⟩⟩
  have := L' k t
  rcases s with s | s <;> omega
end Go.Proofs.Ythefeijgpgcecaa
