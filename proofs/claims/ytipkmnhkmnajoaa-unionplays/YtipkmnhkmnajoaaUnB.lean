/- Sets in memory; isNode, root, Joins, Count. -/
import Derived.Test.YtipkmnhkmnajoaaUnA
import Derived.Test.YtipkmnhkmnajoaaBase
import Derived.Laws.AppendOwn
import Derived.Laws.OwnMore
import Derived.OwnWalk
import Derived.Deep.Onto
namespace Go.Proofs.Ytipkmnhkmnajoaa
open Go.RowKit

/-- What has changed lies in the blocks of F or is new. -/
structure Ch (F : Nat → Prop) (w w' : World) : Prop where
  os : w'.os = w.os
  tape : w'.tape = w.tape
  output : w'.output = w.output
  size : w.heap.size ≤ w'.heap.size
  block : ∀ k, k < w.heap.size → ¬ F k → w'.heap[k]? = w.heap[k]?

theorem Ch.refl (F : Nat → Prop) (w : World) : Ch F w w := ⟨rfl, rfl, rfl, Nat.le_refl _, fun _ _ _ => rfl⟩
theorem Ch.trans {F : Nat → Prop} {a b c : World} (h : Ch F a b) (k : Ch F b c) : Ch F a c :=
  ⟨k.os.trans h.os, k.tape.trans h.tape, k.output.trans h.output, Nat.le_trans h.size k.size, fun i hi hf => (k.block i (Nat.lt_of_lt_of_le hi h.size) hf).trans (h.block i hi hf)⟩
/-- What came new in between does not matter. -/
theorem Ch.trans' {F G : Nat → Prop} {a b c : World} (h : Ch F a b) (k : Ch G b c) (hG : ∀ i, G i → F i ∨ a.heap.size ≤ i) : Ch F a c :=
  ⟨k.os.trans h.os, k.tape.trans h.tape, k.output.trans h.output, Nat.le_trans h.size k.size, fun i hi hf => (k.block i (Nat.lt_of_lt_of_le hi h.size) (fun g => by rcases hG i g with t | t; exact hf t; omega)).trans (h.block i hi hf)⟩
theorem Ch.of_kept {F : Nat → Prop} {w w' : World} (h : Kept w w') : Ch F w w' := ⟨h.os, h.tape, h.output, h.size, fun k hk _ => h.block k hk⟩
theorem Ch.of_grown {F : Nat → Prop} {w w' : World} {row : Option Nat} (h : w.grownBy w' row) (hr : ∀ k, row = some k → F k) : Ch F w w' :=
  ⟨h.os, h.tape, h.output, h.size, fun k hk hf => h.block k hk (fun e => hf (hr k e.symm))⟩
theorem Ch.setCell {F : Nat → Prop} {a w : World} (h : Ch F a w) {p : Addr} (hp : F p.block) (u : Value) : Ch F a (w.setCell p u) :=
  h.trans ⟨rfl, rfl, rfl, by simp [World.setCell], fun k _ hf => Below.heap_setCell _ _ _ _ (fun e => hf (by rw [e]; exact hp))⟩
theorem Ch.drewN {F : Nat → Prop} {a w : World} (h : Ch F a w) (n : Nat) : Ch F a (w.drewN n) := h.trans (.of_kept ((Kept.refl w).drewN n))
theorem Ch.alloc {F : Nat → Prop} {a w : World} (h : Ch F a w) (o : Obj) : Ch F a (w.alloc o) := h.trans (.of_kept ((Kept.refl w).alloc o))
theorem Ch.mono {F G : Nat → Prop} {w w' : World} (h : Ch F w w') (hG : ∀ k, F k → G k) : Ch G w w' := ⟨h.os, h.tape, h.output, h.size, fun k hk hf => h.block k hk (fun t => hf (hG k t))⟩
/-- Old memory is kept where all that may change is newer. -/
theorem Kept.ch {F : Nat → Prop} {W w w' : World} (h : Kept W w) (c : Ch F w w') (hF : ∀ k, F k → W.heap.size ≤ k) : Kept W w' :=
  ⟨c.os.trans h.os, c.tape.trans h.tape, c.output.trans h.output, Nat.le_trans h.size c.size, fun k hk => (c.block k (Nat.lt_of_lt_of_le hk h.size) (fun t => by have := hF k t; omega)).trans (h.block k hk)⟩
theorem Ch.cell {F : Nat → Prop} {w w' : World} (h : Ch F w w') {b o : Nat} {v : Value} (hc : w.cell? ⟨b, o, none⟩ = some v) (hf : ¬ F b) : w'.cell? ⟨b, o, none⟩ = some v :=
  (World.cell?_of_block (a := ⟨b, o, none⟩) (h.block b (World.block_lt_of_cell? w ⟨b, o, none⟩ hc) hf)).trans hc
theorem Ch.frozen {F : Nat → Prop} {w w' : World} (h : Ch F w w') {b o : Nat} (hb : b < w.heap.size) (hf : ¬ F b) : w'.frozen? ⟨b, o, none⟩ = w.frozen? ⟨b, o, none⟩ :=
  World.frozen?_of_block (a := ⟨b, o, none⟩) (h.block b hb hf)
theorem Ch.owns {F : Nat → Prop} {w w' : World} (h : Ch F w w') {base e size n : Nat} {v : Value} {xs : List Value} (ho : w.ownsRow base e size v n xs) (hf : ∀ k, v.ownBlock = some k → ¬ F k) : w'.ownsRow base e size v n xs := by
  refine ⟨ho.1, ?_⟩
  rcases ho.2 with t | ⟨g, cap, cur, h1, h2, h3, h4⟩
  · exact .inl t
  · have hg : g < w.heap.size := (ho.lt g (by rw [h1]; rfl)).2
    exact .inr ⟨g, cap, cur, h1, h2, (h.block g hg (hf g (by rw [h1]; rfl))).trans h3, h4⟩

namespace Un
/-- The cells of so many trees. -/
def tvals (T : Nat → Tr) : Nat → List Value
  | 0 => []
  | n + 1 => tvals T n ++ [.int .i64 ((T n).up : Int), .int .i64 ((T n).size : Int), .int .i64 ((T n).least : Int)]

theorem tvals_len (T : Nat → Tr) (n : Nat) : (tvals T n).length = n * 3 := by
  induction n with
  | zero => rfl
  | succ n ih => simp only [tvals, List.length_append, List.length_cons, List.length_nil, ih]; omega

theorem tvals_get (T : Nat → Tr) (n : Nat) : ∀ i, i < n → (tvals T n)[i * 3]? = some (.int .i64 ((T i).up : Int)) ∧ (tvals T n)[i * 3 + 1]? = some (.int .i64 ((T i).size : Int)) ∧ (tvals T n)[i * 3 + 2]? = some (.int .i64 ((T i).least : Int)) := by
  induction n with
  | zero => intro i hi; omega
  | succ n ih =>
    intro i hi
    have l := tvals_len T n
    by_cases e : i = n
    · subst e
      unfold tvals
      rw [List.getElem?_append_right (by omega), List.getElem?_append_right (by omega), List.getElem?_append_right (by omega), l, Nat.sub_self, show i * 3 + 1 - i * 3 = 1 by omega, show i * 3 + 2 - i * 3 = 2 by omega]
      exact ⟨rfl, rfl, rfl⟩
    · have := ih i (by omega)
      unfold tvals
      rw [List.getElem?_append_left (by omega), List.getElem?_append_left (by omega), List.getElem?_append_left (by omega)]
      exact this

theorem tvals_ext (T : Nat → Tr) (n : Nat) (l : List Value) (hl : l.length = n * 3) (h : ∀ i, i < n → l[i * 3]? = some (.int .i64 ((T i).up : Int)) ∧ l[i * 3 + 1]? = some (.int .i64 ((T i).size : Int)) ∧ l[i * 3 + 2]? = some (.int .i64 ((T i).least : Int))) : l = tvals T n := by
  apply List.ext_getElem?
  intro j
  by_cases hj : j < n * 3
  · obtain ⟨q, r, rfl, hr⟩ : ∃ q r, j = q * 3 + r ∧ r < 3 := ⟨j / 3, j % 3, by omega, by omega⟩
    obtain ⟨a1, a2, a3⟩ := h q (by omega)
    obtain ⟨b1, b2, b3⟩ := tvals_get T n q (by omega)
    have hm : r = 0 ∨ r = 1 ∨ r = 2 := by omega
    rcases hm with rfl | rfl | rfl
    · exact a1.trans b1.symm
    · exact a2.trans b2.symm
    · exact a3.trans b3.symm
  · rw [List.getElem?_eq_none (by omega), List.getElem?_eq_none (by rw [tvals_len]; omega)]

def jcells (j : Jn) : List Value := [.int .i64 (j.below : Int), .int .i64 (j.root : Int), .int .i64 (j.before.up : Int), .int .i64 (j.before.size : Int), .int .i64 (j.before.least : Int)]
/-- The cells of the joins, the first ahead. -/
def jvals : List Jn → List Value
  | [] => []
  | j :: js => jvals js ++ jcells j
theorem jvals_len (js : List Jn) : (jvals js).length = js.length * 5 := by
  induction js with
  | nil => rfl
  | cons j js ih => simp only [jvals, jcells, List.length_append, List.length_cons, List.length_nil, ih]; omega
end Un
open Un

/-- Trees and joins in memory: the struct at block p, the trees at block g, all that it owns in the blocks of F. -/
structure SetsT (w : World) (F : Nat → Prop) (p g n : Nat) (T : Nat → Tr) (js : List Jn) : Prop where
  c0 : w.cell? ⟨p, 0, none⟩ = some (.slice (some ⟨g, 0, none⟩) n n)
  o0 : w.ownsRow 0 106 3 (.slice (some ⟨g, 0, none⟩) n n) n (tvals T n)
  ex : ∃ ao cap, w.cell? ⟨p, 1, none⟩ = some (.slice ao js.length cap) ∧ w.ownsRow 0 120 5 (.slice ao js.length cap) js.length (jvals js) ∧
    (Value.slice ao js.length cap).ownBlock ≠ some p ∧ (Value.slice ao js.length cap).ownBlock ≠ some g ∧ ∀ k, (Value.slice ao js.length cap).ownBlock = some k → F k
  ne : p ≠ g
  own : F p
  owng : F g
  z0 : w.frozen? ⟨p, 0, none⟩ = false
  z1 : w.frozen? ⟨p, 1, none⟩ = false
  lt : ∀ k, F k → k < w.heap.size
  few : n ≤ 1024

theorem SetsT.far {w w' : World} {F G : Nat → Prop} {p g n : Nat} {T : Nat → Tr} {js : List Jn} (h : SetsT w F p g n T js) (c : Ch G w w') (hd : ∀ k, F k → ¬ G k) : SetsT w' F p g n T js := by
  obtain ⟨ao, cap, c1, o1, n2, n3, f2⟩ := h.ex
  have hp := h.lt p h.own
  exact ⟨c.cell h.c0 (hd _ h.own), c.owns h.o0 (fun k e => by simp only [Value.ownBlock, Option.some.injEq] at e; exact hd k (e ▸ h.owng)), ⟨ao, cap, c.cell c1 (hd _ h.own), c.owns o1 (fun k e => hd k (f2 k e)), n2, n3, f2⟩, h.ne, h.own, h.owng,
    (c.frozen hp (hd _ h.own)).trans h.z0, (c.frozen hp (hd _ h.own)).trans h.z1, fun k hk => Nat.lt_of_lt_of_le (h.lt k hk) c.size, h.few⟩

theorem SetsT.kept {w w' : World} {F : Nat → Prop} {p g n : Nat} {T : Nat → Tr} {js : List Jn} (h : SetsT w F p g n T js) (c : Kept w w') : SetsT w' F p g n T js :=
  h.far (G := fun _ => False) (.of_kept c) (fun _ _ t => t)

/-- A tree's cells. -/
theorem SetsT.cells {w : World} {F : Nat → Prop} {p g n : Nat} {T : Nat → Tr} {js : List Jn} (h : SetsT w F p g n T js) (i : Nat) (hi : i < n) :
    w.cell? ⟨g, i * 3, none⟩ = some (.int .i64 ((T i).up : Int)) ∧ w.cell? ⟨g, i * 3 + 1, none⟩ = some (.int .i64 ((T i).size : Int)) ∧ w.cell? ⟨g, i * 3 + 2, none⟩ = some (.int .i64 ((T i).least : Int)) := by
  obtain ⟨a1, a2, a3⟩ := tvals_get T n i hi
  exact ⟨(h.o0.cellAt _ (by omega)).trans a1, (h.o0.cellAt _ (by omega)).trans a2, (h.o0.cellAt _ (by omega)).trans a3⟩

/-- A cell of a tree is written. -/
theorem SetsT.put {w : World} {F : Nat → Prop} {p g n : Nat} {T T' : Nat → Tr} {js : List Jn} (h : SetsT w F p g n T js) (o : Nat) (x : Value) (hT : (tvals T n).set o x = tvals T' n) :
    SetsT (w.setCell ⟨g, o, none⟩ x) F p g n T' js ∧ Ch F w (w.setCell ⟨g, o, none⟩ x) := by
  obtain ⟨ao, cap, c1, o1, n2, n3, f2⟩ := h.ex
  obtain ⟨s1, s2⟩ := h.o0.stored o x
  rw [hT] at s1
  have hp := h.lt p h.own
  have hpg : some p ≠ some g := fun e => h.ne (by simpa using e)
  refine ⟨⟨s2.cell h.c0 hpg, s1, ⟨ao, cap, s2.cell c1 hpg, o1.kept s2 (.inr n3), n2, n3, f2⟩, h.ne, h.own, h.owng, ?_, ?_, fun k hk => Nat.lt_of_lt_of_le (h.lt k hk) s2.size, h.few⟩, (Ch.refl F w).setCell (p := ⟨g, o, none⟩) h.owng x⟩
  · exact (World.frozen?_of_block (a := ⟨p, 0, none⟩) (s2.block p hp hpg)).trans h.z0
  · exact (World.frozen?_of_block (a := ⟨p, 1, none⟩) (s2.block p hp hpg)).trans h.z1

/-- Sets in memory. -/
structure SetsAt (w : World) (F : Nat → Prop) (p g n : Nat) (js : List Jn) : Prop where
  base : SetsT w F p g n (tr js) js
  good : Un.Good n js

theorem SetsAt.far {w w' : World} {F G : Nat → Prop} {p g n : Nat} {js : List Jn} (h : SetsAt w F p g n js) (c : Ch G w w') (hd : ∀ k, F k → ¬ G k) : SetsAt w' F p g n js := ⟨h.base.far c hd, h.good⟩
theorem SetsAt.kept {w w' : World} {F : Nat → Prop} {p g n : Nat} {js : List Jn} (h : SetsAt w F p g n js) (c : Kept w w') : SetsAt w' F p g n js := ⟨h.base.kept c, h.good⟩

theorem isNodeS_calls (w : World) (F : Nat → Prop) (p g n : Nat) (js : List Jn) (h : SetsAt w F p g n js) (v : Int) :
    Calls Try.prog 60 #[.pointer (some ⟨p, 0, none⟩), .int .i64 v] w fun r w' => r = .returned (.bool (decide (0 ≤ v) && decide (v < (n : Int)))) ∧ w = w' := by
  have c0 := h.base.c0
  by_cases hi : 0 ≤ v
  · go_enter Try.func60, Try.ntmps60
    go_wp2
    go_ret
    exact ⟨by simp [hi], rfl⟩
  · go_enter Try.func60, Try.ntmps60
    go_wp2
    go_ret
    exact ⟨by simp; omega, rfl⟩

theorem joins_calls (w : World) (F : Nat → Prop) (p g n : Nat) (js : List Jn) (h : SetsAt w F p g n js) :
    Calls Try.prog 31 #[.pointer (some ⟨p, 0, none⟩)] w fun r w' => r = .returned (.int .i64 (js.length : Int)) ∧ w = w' := by
  have c0 := h.base.c0
  obtain ⟨ao, cap, c1, -⟩ := h.base.ex
  go_enter Try.func31, Try.ntmps31
  go_wp2
  go_ret
  exact ⟨rfl, rfl⟩

set_option maxRecDepth 100000 in
theorem count_calls (w : World) (F : Nat → Prop) (p g n : Nat) (js : List Jn) (h : SetsAt w F p g n js) :
    Calls Try.prog 32 #[.pointer (some ⟨p, 0, none⟩)] w fun r w' => r = .returned (.int .i64 ((n : Int) - (js.length : Int))) ∧ Kept w w' := by
  have c0 := h.base.c0
  obtain ⟨ao, cap, c1, -⟩ := h.base.ex
  have hl := len_lt h.good
  have hf := h.base.few
  go_enter Try.func32, Try.ntmps32
  go_wp2_with fail
  go_quiet (fail)
  go_wp2
  go_ret
  exact ⟨rfl, (Kept.refl w).drewN _⟩

set_option maxRecDepth 100000 in
set_option maxHeartbeats 1000000 in
theorem root_calls (w : World) (F : Nat → Prop) (p g n : Nat) (js : List Jn) (h : SetsAt w F p g n js) (v : Nat) (hv : v < n) :
    Calls Try.prog 61 #[.pointer (some ⟨p, 0, none⟩), .int .i64 (v : Int)] w fun r w' => r = .returned (.int .i64 (rt js v : Int)) ∧ w = w' := by
  have c0 := h.base.c0
  have hf := h.base.few
  have HG := hid_of h.good
  have HT : Hid (∀ i, i < n → w.cell? ⟨g, i * 3, none⟩ = some (.int .i64 ((tr js i).up : Int))) := fun i hi => (h.base.cells i hi).1
  clear h
  go_enter Try.func61, Try.ntmps61
  go_wp2_with fail
  go_loopw [1] (fun i wr => ∃ u : Nat, u < n ∧ i = .int .i64 (u : Int) ∧ rt js u = rt js v ∧ wr = w) (fun i _ => far js (intOf i).toNat)
  case atStart => exact ⟨v, hv, rfl, rfl, rfl⟩
  case round =>
    obtain ⟨u, hu, rfl, hr, rfl⟩ := hrel
    have HR := hid_of hr
    clear hr
    have d := HT.out u hu
    obtain ⟨f1, f2, f3, f4⟩ := up_facts HG.out hu
    have H3 := hid_of f3
    have H4 := hid_of f4
    have H2 := hid_of f2
    clear f2 f3 f4
    generalize hx : (tr js u).up = x at d f1 H2 H3 H4
    clear hx
    by_cases e : x = u
    · subst e
      have q : ((x : Int) != (x : Int)) = false := by simp
      have FIN := hid_of (HR.out.symm.trans (H3.out.1 rfl))
      clear H2 H3 H4 HR
      go_wp2_with fail
      go_ret
      exact ⟨by rw [FIN.out]; rfl, rfl⟩
    · have q : ((x : Int) != (u : Int)) = true := by simp; omega
      have FIN := hid_of (H2.out.trans HR.out)
      have FAR := hid_of (H4.out e)
      clear H2 H3 H4 HR
      go_wp2_with fail
      go_roundw
      case rel => exact ⟨x, f1, rfl, FIN.out, (by first | rfl | trivial)⟩
      case measure => simp [intOf, FAR.out]
end Go.Proofs.Ytipkmnhkmnajoaa
