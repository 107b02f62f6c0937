/- A step of the play: the program's sets and the document's side by side. -/
import Derived.Test.YtipkmnhkmnajoaaUnJ2
namespace Go.Proofs.Ytipkmnhkmnajoaa
open Go.RowKit
open Un

theorem DRow.blk {w : World} {ao : Option Addr} {n cap : Nat} {P : List (Nat × Nat)} (h : DRow w ao n cap P) (hn : 0 < n) {k : Nat} (e : (Value.slice ao n cap).ownBlock = some k) : k < w.heap.size := by
  obtain ⟨b, off, rfl, hc⟩ := h.cell hn
  simp only [Value.ownBlock, Option.some.injEq] at e
  subst e
  exact World.block_lt_of_cell? _ _ (hc 0 hn).1

theorem DRow.init {w : World} {ao : Option Addr} {n cap : Nat} {P : List (Nat × Nat)} {p : Nat × Nat} (h : DRow w ao (n + 1) cap (P ++ [p])) : DRow w ao n cap P := by
  have hl : n = P.length := by have := h.len; simp at this; omega
  refine ⟨hl, by have := h.room; omega, h.most, fun hn => ?_⟩
  obtain ⟨b, off, e, hc⟩ := h.cell (by omega)
  refine ⟨b, off, e, fun i hi => ?_⟩
  have := hc i (by omega)
  have ep : prAt (P ++ [p]) i = prAt P i := by
    unfold prAt
    simp only [List.getD]
    rw [List.getElem?_append_left (by omega)]
  rw [ep] at this
  exact this

/-- Both sides. -/
structure Play (W w : World) (F : Nat → Prop) (p g n : Nat) (ao : Option Addr) (m cap : Nat) (P : List (Nat × Nat)) (js : List Jn) : Prop where
  sets : SetsAt w F p g n js
  doc : DocAt w n ao m cap P js
  nil : ao = none → m = 0 ∧ cap = 0
  kept : Kept W w
  new : ∀ k, F k → W.heap.size ≤ k
  apart : ∀ k, (Value.slice ao m cap).ownBlock = some k → ¬ F k ∧ k < w.heap.size

theorem Play.keptBy {W w w' : World} {F : Nat → Prop} {p g n m cap : Nat} {ao : Option Addr} {P : List (Nat × Nat)} {js : List Jn} (h : Play W w F p g n ao m cap P js) (K : Kept w w') : Play W w' F p g n ao m cap P js :=
  ⟨h.sets.kept K, h.doc.kept K, h.nil, h.kept.trans K, h.new, fun k e => ⟨(h.apart k e).1, Nat.lt_of_lt_of_le (h.apart k e).2 K.size⟩⟩

/-- The program's sets have changed, and the document's have come along. -/
theorem Play.turn {W w w' : World} {F F' : Nat → Prop} {p g n m cap : Nat} {ao : Option Addr} {P : List (Nat × Nat)} {js : List Jn} (S : SetsAt w' F' p g n js) (D : DocAt w n ao m cap P js) (hnil : ao = none → m = 0 ∧ cap = 0) (hk : Kept W w) (new : ∀ k, F k → W.heap.size ≤ k)
    (ap : ∀ k, (Value.slice ao m cap).ownBlock = some k → ¬ F k ∧ k < w.heap.size) (C : Ch F w w') (E : ∀ k, F' k → F k ∨ w.heap.size ≤ k) : Play W w' F' p g n ao m cap P js := by
  have hs := hk.size
  refine ⟨S, ⟨D.row.far C (fun k e => (ap k e).1), D.par, D.good, D.few⟩, hnil, hk.ch C new, fun k h => ?_, fun k e => ⟨fun h => ?_, Nat.lt_of_lt_of_le (ap k e).2 C.size⟩⟩
  · rcases E k h with t | t
    · exact new k t
    · omega
  · rcases E k h with t | t
    · exact (ap k e).1 t
    · have := (ap k e).2; omega

theorem par_join {n : Nat} {P : List (Nat × Nat)} {js : List Jn} (h : Par n P js) {u v : Nat} (hu : u < n) (hv : v < n) (hne : rt js u ≠ rt js v) : Par n (P ++ [(u, v)]) (joinOf js u v) := by
  unfold joinOf
  rw [if_neg hne]
  split
  · exact ⟨P, u, v, rfl, h, hu, hv, .inl ⟨rfl, rfl⟩⟩
  · exact ⟨P, u, v, rfl, h, hu, hv, .inr ⟨rfl, rfl⟩⟩

/-- The document's Join, at whatever numbers. -/
theorem joinRZ_calls (w : World) (n m cap : Nat) (ao : Option Addr) (P : List (Nat × Nat)) (js : List Jn) (h : DocAt w n ao m cap P js) (hnil : ao = none → m = 0 ∧ cap = 0) (u v : Int) :
    Calls Try.prog 56 #[.agg #[.int .i64 (n : Int), .slice ao m cap], .int .i64 u, .int .i64 v] w fun e w' => (∃ ao' m' cap', e = .returned (.tuple #[.agg #[.int .i64 (n : Int), .slice ao' m' cap'], .bool (freshOf n js u v), .int .i64 (codeOf n u v)]) ∧ (∃ P', DocAt w' n ao' m' cap' P' (stepJ n js u v)) ∧ (ao' = none → m' = 0 ∧ cap' = 0) ∧
      ∀ k, (Value.slice ao' m' cap').ownBlock = some k → (Value.slice ao m cap).ownBlock = some k ∨ w.heap.size ≤ k ∧ k < w'.heap.size) ∧ Kept w w' := by
  by_cases c : okPair n u v
  · have c' := c
    obtain ⟨⟨a1, a2⟩, b1, b2⟩ := c'
    obtain ⟨x, rfl⟩ : ∃ x : Nat, u = (x : Int) := ⟨u.toNat, by omega⟩
    obtain ⟨y, rfl⟩ : ∃ y : Nat, v = (y : Int) := ⟨v.toNat, by omega⟩
    have ec : codeOf n (x : Int) (y : Int) = 0 := by unfold codeOf; rw [if_pos c]
    have es : stepJ n js (x : Int) (y : Int) = joinOf js x y := by unfold stepJ; rw [if_pos c]; rfl
    rw [ec, es]
    by_cases he : rt js x = rt js y
    · have ef : freshOf n js (x : Int) (y : Int) = false := by unfold freshOf; simp [he]
      have ej : joinOf js x y = js := by unfold joinOf; rw [if_pos he]
      rw [ef, ej]
      refine (joinR0_calls w n m cap ao P js h x y (by omega) (by omega) he).mono ?_
      rintro e w' ⟨rfl, K⟩
      exact ⟨⟨ao, m, cap, rfl, ⟨P, h.kept K⟩, hnil, fun k e => .inl e⟩, K⟩
    · have ef : freshOf n js (x : Int) (y : Int) = true := by unfold freshOf; simp [he, c]
      rw [ef]
      refine (joinR1_calls w n m cap ao P js h hnil x y (by omega) (by omega) he).mono ?_
      rintro e w' ⟨⟨ao', cap', rfl, D, L⟩, K⟩
      refine ⟨⟨ao', m + 1, cap', rfl, ⟨P ++ [(x, y)], D, par_join h.par (by omega) (by omega) he, good_join h.good (by omega) (by omega), h.few⟩, fun t => ?_, fun k e => .inr ⟨L k e, D.blk (by omega) e⟩⟩, K⟩
      obtain ⟨b, off, e, _⟩ := D.cell (by omega)
      rw [e] at t; cases t
  · have ec : codeOf n u v = 30 := by unfold codeOf; rw [if_neg c]
    have es : stepJ n js u v = js := by unfold stepJ; rw [if_neg c]
    have ef : freshOf n js u v = false := by unfold freshOf; simp [c]
    rw [ec, es, ef]
    refine (joinRBad_calls w n m cap ao u v c).mono ?_
    rintro e w' ⟨rfl, K⟩
    exact ⟨⟨ao, m, cap, rfl, ⟨P, h.kept K⟩, hnil, fun k e => .inl e⟩, K⟩
end Go.Proofs.Ytipkmnhkmnajoaa
