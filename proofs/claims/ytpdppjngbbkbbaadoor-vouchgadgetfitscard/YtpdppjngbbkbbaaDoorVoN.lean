/- The gadget's edges: the closure that joins; the list that comes. -/
import Derived.Test.YtpdppjngbbkbbaaDoorVoM
namespace Go.Proofs.YtpdppjngbbkbbaaDoor
open Go.RowKit

/-- A graph that grows, beside the box of an edge that is read. -/
structure NetE (w : World) (B nb eb : Nat) (nodes : Int) (L : List Ed) (a b : Value) : Prop where
  c0 : w.cell? ⟨nb, 0, none⟩ = some (.int .i64 nodes)
  c1 : ∃ ao cap, w.cell? ⟨nb, 1, none⟩ = some (.slice ao L.length cap) ∧ w.ownsRow B 86 4 (.slice ao L.length cap) L.length (evals L) ∧ some nb ≠ (Value.slice ao L.length cap).ownBlock ∧ some eb ≠ (Value.slice ao L.length cap).ownBlock
  ge : B ≤ nb
  zz : ∀ o, w.frozen? ⟨nb, o, none⟩ = false
  box : Box2 w eb a b
  ne : ¬ eb = nb
theorem NetE.net {w : World} {B nb eb : Nat} {nodes : Int} {L : List Ed} {a b : Value} (h : NetE w B nb eb nodes L a b) : NetAt w B nb nodes L := by
  obtain ⟨ao, cap, h1, h2, h3, -⟩ := h.c1
  exact ⟨h.c0, ⟨ao, cap, h1, h2, h3⟩, h.zz 0, h.zz 1, h.ge, h.zz⟩
theorem NetAt.keep {w w' : World} {B p : Nat} {nodes : Int} {es : List Ed} (h : NetAt w B p nodes es) (K : Kept w w') : NetAt w' B p nodes es := by
  obtain ⟨ao, cap, c1, O, hp⟩ := h.c1
  have lp : p < w.heap.size := lt_cell c1
  exact ⟨K.cell h.c0, ⟨ao, cap, K.cell c1, ownsK O K, hp⟩, (Below.frozen (p := ⟨p, 0, none⟩) K lp).trans h.z0, (Below.frozen (p := ⟨p, 1, none⟩) K lp).trans h.z1, h.ge, fun q => (Below.frozen (p := ⟨p, q, none⟩) K lp).trans (h.zz q)⟩
/-- Beside the box of an edge that is made now. -/
theorem NetAt.box {w w' : World} {B nb : Nat} {nodes : Int} {L : List Ed} {a b : Value} (h : NetAt w B nb nodes L) (K : Kept w w') {eb : Nat} (heb : w.heap.size ≤ eb) (hB : Box2 w' eb a b) : NetE w' B nb eb nodes L a b := by
  have h' := h.keep K
  obtain ⟨ao, cap, c1, O, hp⟩ := h.c1
  obtain ⟨ao', cap', c1', O', hp'⟩ := h'.c1
  have e : ao' = ao ∧ cap' = cap := by
    have := K.cell c1
    rw [c1'] at this
    simp at this
    exact ⟨this.1, this.2⟩
  obtain ⟨rfl, rfl⟩ := e
  have lp : nb < w.heap.size := lt_cell c1
  refine ⟨h'.c0, ⟨ao', cap', c1', O', hp', fun t => ?_⟩, h.ge, h'.zz, hB, by omega⟩
  have := (O.lt eb t.symm).2
  omega
theorem NetE.keep {w w' : World} {B nb eb : Nat} {nodes : Int} {L : List Ed} {a b : Value} (h : NetE w B nb eb nodes L a b) (K : Kept w w') : NetE w' B nb eb nodes L a b := by
  obtain ⟨ao, cap, c1, O, hp, he⟩ := h.c1
  have n := h.net.keep K
  exact ⟨n.c0, ⟨ao, cap, K.cell c1, ownsK O K, hp, he⟩, h.ge, n.zz, h.box.kept K, h.ne⟩

set_option maxRecDepth 100000 in
set_option linter.unusedSimpArgs false in
set_option maxHeartbeats 2000000 in
theorem join_calls (a b : Int) (B nb eb : Nat) (nodes : Int) (L : List Ed) (x y : Value) (w : World) (H : NetE w B nb eb nodes L x y) (hL : L.length < 4194304) :
    Calls Tryd.prog 108 #[.int .i64 a, .int .i64 b, .pointer (some ⟨nb, 0, none⟩)] w fun r w' => r = .returned (.tuple #[]) ∧ NetE w' B nb eb nodes (L ++ [⟨a, b, 0, 0⟩]) x y ∧ Ch (fun k => B ≤ k) w w' := by
  obtain ⟨i0, hi, hz0, hz1, hz2⟩ := infoE
  obtain ⟨ao, cap, c1, O, hp, he⟩ := H.c1
  have c0 := H.c0
  have z1 := H.zz 1
  have HN := hid_of H
  obtain ⟨len, hlen⟩ : ∃ len, L.length = len := ⟨_, rfl⟩
  rw [hlen] at c1 O hp he hL
  have HL := hid_of hlen
  have lb : nb < w.heap.size := lt_cell c1
  have le : eb < w.heap.size := lt_cell H.box.f0
  have hBw : B ≤ w.heap.size := Nat.le_trans H.ge (Nat.le_of_lt lb)
  have NW := hid_of (cell_new4 w 86 ⟨a, b, 0, 0⟩)
  have HM := hid_of (World.ownsRow.alloc O (Obj.cells #[.int .i64 a, .int .i64 b, .int .i64 0, .int .i64 0] 86))
  have HO := hid_of O
  have HP := hid_of hp
  have HEE := hid_of he
  clear O H hlen hp he c0
  go_enter Tryd.func108, Tryd.ntmps108
  go_wp2_with (at_builtin; refine wpList_append_own_at _ rfl _ _ 22 rfl B 86 i0 _ 4 32 Tryd.underlying22 hi hz0 hz1 hz2 rfl (by decide) _ _ _ rfl HM.out ⟨w.heap.size, 0, none⟩ 1 1 (ecells ⟨a, b, 0, 0⟩) rfl rfl NW.out (ecells_one _) (by unfold maxLen; omega) (by omega) (by simp; omega) ?_)
  intro v' w1 own grow _ hat
  have hat' : v'.ownBlock = (Value.slice ao len cap).ownBlock ∨ v'.ownBlock = some (w.heap.size + 1) := by
    rcases hat with t | t
    · exact .inl t
    · exact .inr (by rw [t])
  have KA : Kept w (w.alloc (Obj.cells #[.int .i64 a, .int .i64 b, .int .i64 0, .int .i64 0] 86)) := (Kept.refl w).alloc _
  obtain ⟨ao5, cap5, rfl, q1, q2, q3, q4⟩ := net_grow (wr := w) (o := Obj.cells #[.int .i64 a, .int .i64 b, .int .i64 0, .int .i64 0] 86) (x := ⟨a, b, 0, 0⟩) HL.out.symm HN.out.c0 c1 HP.out (HN.out.zz 0) z1 HN.out.ge HN.out.zz own grow hat'
  have b0 : w1.cell? ⟨eb, 0, none⟩ = some x := grow.cell (KA.cell HN.out.box.f0) HEE.out
  have b1 : w1.cell? ⟨eb, 1, none⟩ = some y := grow.cell (KA.cell HN.out.box.f1) HEE.out
  have CH : Ch (fun k => B ≤ k) w (w1.setCell ⟨nb, 1, none⟩ (.slice ao5 (len + 1) cap5)) := Ch.setCell (F := fun k => B ≤ k) ((Ch.of_kept KA).trans (Ch.of_grown grow (fun kk e => (HO.out.lt kk e).1))) (p := ⟨nb, 1, none⟩) HN.out.ge _
  have NF : NetE (w1.setCell ⟨nb, 1, none⟩ (.slice ao5 (len + 1) cap5)) B nb eb nodes (L ++ [⟨a, b, 0, 0⟩]) x y := by
    obtain ⟨ao6, cap6, r1, r2, r3⟩ := q3.c1
    have hl : (L ++ [(⟨a, b, 0, 0⟩ : Ed)]).length = len + 1 := by simp [HL.out]
    rw [hl] at r1 r2 r3
    have e : ao6 = ao5 ∧ cap6 = cap5 := by
      rw [q4] at r1
      simp at r1
      exact ⟨r1.1.symm, r1.2.symm⟩
    obtain ⟨rfl, rfl⟩ := e
    refine ⟨q3.c0, ⟨ao6, cap6, by rw [hl]; exact q4, by rw [hl]; exact r2, by rw [hl]; exact r3, ?_⟩, HN.out.ge, q3.zz, ⟨cell_put b0 HN.out.ne, cell_put b1 HN.out.ne⟩, HN.out.ne⟩
    rw [hl]
    rcases hat' with t | t
    · rw [t]; exact HEE.out
    · rw [t]; simp; omega
  have NFH := hid_of NF
  have CHH := hid_of CH
  clear own grow hat hat' q3 q4 b0 b1 CH NF KA NW HM HO HN c1 HP HEE
  go_wp2
  exact bodyPost_end (v := .tuple #[]) (by simp [results, Tryd.results108]) rfl ⟨rfl, NFH.out, CHH.out⟩

/-- From c nodes on, all to one. -/
def upTo (a x : Int) : Nat → List Ed
  | 0 => []
  | k + 1 => upTo a x k ++ [⟨a + (k : Int), x, 0, 0⟩]
/-- From one node to c. -/
def dnTo (x a : Int) : Nat → List Ed
  | 0 => []
  | k + 1 => dnTo x a k ++ [⟨x, a + (k : Int), 0, 0⟩]
theorem upTo_len (a x : Int) (k : Nat) : (upTo a x k).length = k := by induction k with
  | zero => rfl
  | succ k ih => simp [upTo, ih]
theorem dnTo_len (x a : Int) (k : Nat) : (dnTo x a k).length = k := by induction k with
  | zero => rfl
  | succ k ih => simp [dnTo, ih]
/-- What an edge that is no loop becomes. -/
def gadOf (cp : Nat → Int) (f t : Nat) (x : Int) : List Ed := ([⟨x, x + 1, 0, 0⟩] ++ upTo (sm cp f) x (cp f).toNat) ++ dnTo (x + 1) (sm cp t) (cp t).toNat
/-- The gadget's edges behind k edges. -/
def gadTo (cp : Nat → Int) (N : Nat) (es : List Ed) : Nat → List Ed
  | 0 => []
  | k + 1 => if lp es k then gadTo cp N es k else gadTo cp N es k ++ gadOf cp (edAt es k).f.toNat (edAt es k).t.toNat (szN cp N es k)
theorem gadTo_succ (cp : Nat → Int) (N : Nat) (es : List Ed) (k : Nat) : gadTo cp N es (k + 1) = if lp es k then gadTo cp N es k else gadTo cp N es k ++ gadOf cp (edAt es k).f.toNat (edAt es k).t.toNat (szN cp N es k) := rfl
theorem gadTo_len {cp : Nat → Int} {N n : Nat} {es : List Ed} (h : CpOk cp N) (he : EndsIn es N n) : ∀ k, k ≤ n → ((gadTo cp N es k).length : Int) = szE cp es k := by
  intro k
  induction k with
  | zero => intro _; rfl
  | succ k ih =>
    intro hk
    rw [gadTo_succ, szE_succ]
    have i := ih (by omega)
    obtain ⟨e1, e2, e3, e4⟩ := he k (by omega)
    have := h (edAt es k).f.toNat (by omega)
    have := h (edAt es k).t.toNat (by omega)
    split
    · omega
    · unfold gadOf
      simp only [List.length_append, List.length_cons, List.length_nil, upTo_len, dnTo_len]
      omega
theorem szN_succ (cp : Nat → Int) (N : Nat) (es : List Ed) (k : Nat) : szN cp N es (k + 1) = szN cp N es k + (if lp es k then 0 else 2) := by
  unfold szN
  rw [nlTo_succ]
  split <;> omega
theorem szE_mono {cp : Nat → Int} {N n : Nat} {es : List Ed} (h : CpOk cp N) (he : EndsIn es N n) {k j : Nat} (hk : k ≤ j) (hj : j ≤ n) : szE cp es k ≤ szE cp es j := by
  induction j with
  | zero =>
    obtain rfl : k = 0 := by omega
    exact Int.le_refl _
  | succ j ih =>
    by_cases e : k = j + 1
    · subst e; exact Int.le_refl _
    · have := ih (by omega) (by omega)
      rw [szE_succ]
      obtain ⟨e1, e2, e3, e4⟩ := he j (by omega)
      have := h (edAt es j).f.toNat (by omega)
      have := h (edAt es j).t.toNat (by omega)
      split <;> omega
theorem szN_bd {cp : Nat → Int} {N : Nat} {es : List Ed} (h : CpOk cp N) (hN : N ≤ 1024) {k : Nat} (hk : k ≤ 4096) : 0 ≤ szN cp N es k ∧ szN cp N es k ≤ 4202496 := by
  have := h.sm_bd N (Nat.le_refl _)
  have := nlTo_bd es k
  unfold szN
  omega
end Go.Proofs.YtpdppjngbbkbbaaDoor
