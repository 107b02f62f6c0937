/- Order: the mathematics; the function that takes a node into the order. -/
import Derived.Test.YtjheiaegpoppaaaWkE
namespace Go.Proofs.Ytjheiaegpoppaaa
open Go.RowKit

/-- How many edges lead into a node from nodes that are not in the list. -/
def cntIn (es : List Ed) (O : List Nat) (x : Nat) : Int := ((es.filter fun e => e.t == (x : Int) && !(O.contains e.f.toNat)).length : Nat)

/-- How often a node is led to. -/
def occ (ts : List Int) (x : Nat) : Int := ((ts.filter fun t => t == (x : Int)).length : Nat)

theorem occ_snoc (ts : List Int) (t : Int) (x : Nat) : occ (ts ++ [t]) x = occ ts x + (if t = (x : Int) then 1 else 0) := by
  unfold occ
  rw [List.filter_append, List.length_append]
  by_cases e : t = (x : Int)
  · simp [e]
  · simp [e]

theorem cnt_enter (es : List Ed) (O : List Nat) (v x : Nat) (hv : v ∉ O) (hes : ∀ e ∈ es, 0 ≤ e.f) : cntIn es (O ++ [v]) x = cntIn es O x - occ ((es.filter fun e => e.f == (v : Int)).map Ed.t) x := by
  unfold cntIn occ
  induction es with
  | nil => rfl
  | cons e es ih =>
    have ih := ih (fun e he => hes e (by simp [he]))
    have h0 := hes e (by simp)
    have hc : (O ++ [v]).contains e.f.toNat = (O.contains e.f.toNat || e.f.toNat == v) := by
      rw [Bool.eq_iff_iff]
      simp [List.mem_append]
    simp only [List.filter_cons]
    rw [hc]
    by_cases h1 : e.f = (v : Int)
    · have h2 : e.f.toNat = v := by omega
      have h3 : O.contains v = false := by simpa [List.contains_iff_mem] using hv
      by_cases h4 : e.t = (x : Int)
      · simp [h1, h4, hv] at ih ⊢
        omega
      · simp [h1, h4] at ih ⊢
        exact ih
    · have h2 : ¬ e.f.toNat = v := by omega
      by_cases h4 : e.t = (x : Int)
      · by_cases h5 : e.f.toNat ∈ O
        · simp [h1, h4, h5] at ih ⊢
          exact ih
        · simp [h1, h2, h4, h5] at ih ⊢
          omega
      · simp [h1, h4] at ih ⊢
        exact ih

/-- A list of bool as long as its block. -/
def BoolsAt (w : World) (g n : Nat) (f : Nat → Bool) : Prop := w.rowIs g 4 n (fun i => .bool (f i))
theorem BoolsAt.ch {F : Nat → Prop} {w w' : World} {g n : Nat} {f : Nat → Bool} (h : BoolsAt w g n f) (C : Ch F w w') (hF : ¬ F g) : BoolsAt w' g n f := h.of_block (C.block g h.lt hF)
theorem BoolsAt.kept {w w' : World} {g n : Nat} {f : Nat → Bool} (h : BoolsAt w g n f) (K : Kept w w') : BoolsAt w' g n f := h.of_block (K.block g h.lt)
theorem BoolsAt.cell {w : World} {g n : Nat} {f : Nat → Bool} (h : BoolsAt w g n f) {i : Nat} (hi : i < n) : w.cell? ⟨g, i, none⟩ = some (.bool (f i)) := World.rowIs.cell h hi
theorem BoolsAt.set {w : World} {g n : Nat} {f : Nat → Bool} (h : BoolsAt w g n f) (i : Nat) (z : Bool) : BoolsAt (w.setCell ⟨g, i, none⟩ (.bool z)) g n (fun j => if j = i then z else f j) :=
  (World.rowIs.set h i (.bool z)).congr (fun j _ => by by_cases e : j = i <;> simp [e])

/-- What has come, with one node more. -/
def comeNow (cm : Nat → Bool) (v : Nat) : Nat → Bool := fun j => if j = v then true else cm j

/-- What changes while the order is made: what has come, what is awaited, the order's box. -/
def three (gc ga bo : Nat) : Nat → Prop := fun k => k = gc ∨ k = ga ∨ k = bo

/-- The state of the order, from the world W on in which it was begun. -/
structure OAt (W w : World) (gc ga bo n : Nat) (O : List Nat) (cm : Nat → Bool) (aw : Nat → Int) : Prop where
  ch : Ch (three gc ga bo) W w
  bools : BoolsAt w gc n cm
  ints : IntsAt w ga n aw
  box : ∃ so sc, w.cell? ⟨bo, 0, none⟩ = some (.slice so O.length sc) ∧ w.ownsRow W.heap.size 3 1 (.slice so O.length sc) O.length (jvals (qz O))
  z : w.frozen? ⟨bo, 0, none⟩ = false

/-- The lists where the edges lead, as they are read while the order is made. -/
def Reads (W : World) (q n : Nat) (L : Nat → List Int) (F : Nat → Prop) : Prop :=
  ∀ v, v < n → ∃ so sc, W.cell? ⟨q, v, none⟩ = some (.slice so (L v).length sc) ∧ (L v).length ≤ sc ∧ sc ≤ maxLen ∧ (0 < (L v).length → ∃ b off, so = some ⟨b, off, none⟩ ∧ ¬ F b ∧ ∀ j, j < (L v).length → W.cell? ⟨b, off + j, none⟩ = some (.int .i64 ((L v).getD j 0)))

set_option maxRecDepth 100000 in
set_option maxHeartbeats 4000000 in
theorem ocl_calls (W w : World) (gc ga bo bc bn ba q n : Nat) (hn : n ≤ 1024) (L : Nat → List Int) (hLl : Hid (∀ v, v < n → (L v).length ≤ 4096)) (hL : Hid (∀ v, v < n → ∀ t ∈ L v, 0 ≤ t ∧ t < (n : Int)))
    (RD : Hid (Reads W q n L (three gc ga bo))) (hq : ¬ three gc ga bo q) (kc : W.cell? ⟨bc, 0, none⟩ = some (.slice (some ⟨gc, 0, none⟩) n n)) (kn : W.cell? ⟨bn, 0, none⟩ = some (.slice (some ⟨q, 0, none⟩) n n)) (ka : W.cell? ⟨ba, 0, none⟩ = some (.slice (some ⟨ga, 0, none⟩) n n))
    (nc : ¬ three gc ga bo bc) (nn : ¬ three gc ga bo bn) (na : ¬ three gc ga bo ba) (d1 : gc ≠ ga) (d2 : gc ≠ bo) (d3 : ga ≠ bo) (l1 : gc < W.heap.size) (l2 : ga < W.heap.size) (l3 : bo < W.heap.size)
    (O : List Nat) (hO : O.length < n) (cm : Nat → Bool) (aw : Nat → Int) (haw : Hid (∀ x, -9000000 ≤ aw x ∧ aw x ≤ 9000000)) (H : OAt W w gc ga bo n O cm aw) (v : Nat) (hv : v < n) :
    Calls Try.prog 33 #[.int .i64 (v : Int), .pointer (some ⟨bc, 0, none⟩), .pointer (some ⟨bo, 0, none⟩), .pointer (some ⟨bn, 0, none⟩), .pointer (some ⟨ba, 0, none⟩)] w fun r w' => r = .returned (.tuple #[]) ∧ OAt W w' gc ga bo n (O ++ [v]) (comeNow cm v) (fun x => aw x - occ (L v) x) := by
  obtain ⟨i0, hi, hz0, hz1, hz2⟩ := infoJ
  have C0 := H.ch
  have c0 := C0.cell kc nc
  have n0 := C0.cell kn nn
  have a0 := C0.cell ka na
  obtain ⟨so, sc, hbx, hown⟩ := H.box
  have hfz := H.z
  have cv := H.bools.cell hv
  have fv := World.rowIs.frozen H.bools v
  have hvi : (v : Int) < (n : Int) := by omega
  have lw := C0.size
  -- behind the first store
  have CB : Ch (three gc ga bo) W (w.setCell ⟨gc, v, none⟩ (.bool true)) := C0.setCell (F := three gc ga bo) (p := ⟨gc, v, none⟩) (.inl rfl) _
  have CX : Ch (fun k => k = gc) w (w.setCell ⟨gc, v, none⟩ (.bool true)) := (Ch.refl (fun k => k = gc) w).setCell (F := fun k => k = gc) (p := ⟨gc, v, none⟩) rfl _
  have B1 : Hid (BoolsAt (w.setCell ⟨gc, v, none⟩ (.bool true)) gc n (comeNow cm v)) := H.bools.set v true
  have I1 := hid_of (H.ints.ch CX (fun t => d1 t.symm))
  have hbo : ¬ bo = gc := fun t => d2 t.symm
  have k1 := CX.cell hbx hbo
  have z1 := (CX.frozen (o := 0) (lt_cell hbx) hbo).trans hfz
  have o1 := CX.owns hown (fun kk e t => by have := (hown.lt kk e).1; omega)
  have c1 := CX.cell c0 (fun t => nc (.inl t))
  have n1 := CX.cell n0 (fun t => nn (.inl t))
  have a1 := CX.cell a0 (fun t => na (.inl t))
  obtain ⟨lo, hlo⟩ : ∃ lo, O.length = lo := ⟨_, rfl⟩
  rw [hlo] at k1 o1 hO hbx
  have HLO := hid_of hlo
  have CBH := hid_of CB
  have O1H := hid_of o1
  clear H C0 hown CX CB hlo o1
  go_enter Try.func33, Try.ntmps33
  go_upto_region 1 with fail
  generalize hw1 : w.setCell ⟨gc, v, none⟩ (.bool true) = w1 at *
  clear hw1 hbx cv fv c0 n0 a0 hfz
  have hw1s : W.heap.size ≤ w1.heap.size := CBH.out.size
  have NW := hid_of (cell_newj w1 3 (.int .i64 (v : Int)))
  have HM := hid_of (World.ownsRow.alloc O1H.out (Obj.cells #[.int .i64 (v : Int)] 3))
  have lb1 := lt_cell k1
  have ST : Hid (∀ w2 g cap3, w2.ownsRow W.heap.size 3 1 (.slice (some ⟨g, 0, none⟩) (lo + 1) cap3) (lo + 1) (jvals (qz O) ++ [.int .i64 (v : Int)]) → (w1.alloc (Obj.cells #[.int .i64 (v : Int)] 3)).grownBy w2 (Value.slice so lo sc).ownBlock →
      w2.cell? ⟨bo, 0, none⟩ = some (.slice so lo sc) ∧ w2.frozen? ⟨bo, 0, none⟩ = false ∧ OAt W (w2.setCell ⟨bo, 0, none⟩ (.slice (some ⟨g, 0, none⟩) (lo + 1) cap3)) gc ga bo n (O ++ [v]) (comeNow cm v) aw) := fun w2 g cap3 own grow => by
    have K3 : Kept w1 (w1.alloc (Obj.cells #[.int .i64 (v : Int)] 3)) := (Kept.refl w1).alloc _
    have CG : Ch (fun k => W.heap.size ≤ k) w1 w2 := (Ch.of_kept K3).trans (Ch.of_grown grow (fun kk e => (O1H.out.lt kk e).1))
    have nb : ¬ W.heap.size ≤ bo := by omega
    have ngc : ¬ W.heap.size ≤ gc := by omega
    have nga : ¬ W.heap.size ≤ ga := by omega
    have m1 := CG.cell k1 nb
    have m2 := (CG.frozen (o := 0) lb1 nb).trans z1
    have CS : Ch (fun k => k = bo) w2 (w2.setCell ⟨bo, 0, none⟩ (.slice (some ⟨g, 0, none⟩) (lo + 1) cap3)) := (Ch.refl (fun k => k = bo) w2).setCell (F := fun k => k = bo) (p := ⟨bo, 0, none⟩) rfl _
    have hg := (own.lt g rfl).1
    have hl : (O ++ [v]).length = lo + 1 := by rw [List.length_append, HLO.out]; rfl
    refine ⟨m1, m2, ⟨(CBH.out.trans' CG (fun i hi => .inr hi)).trans (CS.mono (G := three gc ga bo) (fun k t => .inr (.inr t))), (B1.out.ch CG ngc).ch CS d2, (I1.out.ch CG nga).ch CS d3, ⟨some ⟨g, 0, none⟩, cap3, ?_, ?_⟩, ?_⟩⟩
    · rw [hl]; exact World.cell?_setCell_same _ _ _ m1
    · rw [hl, qz_snoc, ← jvals_snoc]
      exact ownsRow_setCell_other own (fun e => by simp only [Value.ownBlock, Option.some.injEq] at e; omega) _
    · simpa [go_sem] using m2
  obtain ⟨so', sc', rd1, rd2, rd3, rd4⟩ := RD.out v hv
  unfold maxLen at rd3
  have hlen := hLl.out v hv
  obtain ⟨ll, hll⟩ : ∃ ll, (L v).length = ll := ⟨_, rfl⟩
  have HLL := hid_of hll
  rw [hll] at rd1 rd2 rd4 hlen
  have RD4 := hid_of rd4
  have RD1 := hid_of rd1
  have KN := hid_of kn
  have KA := hid_of ka
  clear rd4 rd1 hll kn ka kc c1 n1 a1
  go_wp2_with (at_builtin; refine wpList_append_lies _ (by rfl) (.tmp 11) (.tmp 13) 26 (by rfl) W.heap.size 3 i0 _ 1 8 Try.underlying26 hi hz0 hz1 hz2 rfl (by decide) _ _ _ (by rfl) HM.out ⟨w1.heap.size, 0, none⟩ 1 1 [.int .i64 (v : Int)] (by rfl) rfl NW.out (by intro u hu; simp at hu; subst hu; rfl) (by decide) (by unfold maxLen; omega) (by omega) (by simp; omega) (w1.heap.size + 1) (by simp) ?_; intro g cap3 w2 own grow hat hlt; obtain ⟨m1, m2, m3⟩ := ST.out w2 g cap3 own grow; clear own grow hat hlt HM NW ST B1 I1 CBH O1H; have n3 := m3.ch.cell KN.out nn; have a3 := m3.ch.cell KA.out na; have r3 := m3.ch.cell RD1.out hq)
  generalize hw3 : w2.setCell ⟨bo, 0, none⟩ (.slice (some ⟨g, 0, none⟩) (lo + 1) cap3) = w3 at *
  clear hw3 m1 m2 k1 z1 lb1 r3
  have M3 := hid_of m3
  clear m3
  go_loopw [7, 20] (fun _ i wr => ∃ j : Nat, j ≤ ll ∧ i = .int .i64 (j : Int) ∧ IntsAt wr ga n (fun x => aw x - occ ((L v).take j) x) ∧ Ch (fun k => k = ga) w3 wr) (fun _ i _ => ll - (intOf i).toNat)
  case atStart => exact ⟨0, by omega, rfl, M3.out.ints.congr (fun x _ => by simp [occ]), Ch.refl _ _⟩
  case round =>
    obtain ⟨j, hj, rfl, I2, C2⟩ := hrel
    by_cases hgo : (j : Int) < (ll : Int)
    · obtain ⟨b1, off1, e1, nb1, hc1⟩ := RD4.out (by omega)
      subst e1
      have C3 : Ch (three gc ga bo) W wr := M3.out.ch.trans (C2.mono (G := three gc ga bo) (fun k t => .inr (.inl t)))
      have c1 := C3.cell (hc1 j (by omega)) nb1
      have hjl : j < (L v).length := by rw [HLL.out]; omega
      have hmem : (L v).getD j 0 ∈ L v := by simp [List.getD, hjl]
      have hxr := hL.out v hv _ hmem
      have hsn : (L v).take (j + 1) = (L v).take j ++ [(L v).getD j 0] := by
        rw [List.take_succ_eq_append_getElem hjl]
        simp [List.getD, hjl]
      obtain ⟨x, hx⟩ : ∃ x : Nat, (L v).getD j 0 = (x : Int) := ⟨((L v).getD j 0).toNat, by omega⟩
      have hxn : x < n := by rw [hx] at hxr; omega
      rw [hx] at c1 hsn
      have a2 := C2.cell a3 (fun t => na (.inr (.inl t)))
      have ix := I2.cell hxn
      have fx := World.rowIs.frozen I2 x
      have hxi : (x : Int) < (n : Int) := by omega
      have hoc : 0 ≤ occ ((L v).take j) x ∧ occ ((L v).take j) x ≤ 4096 := by
        unfold occ
        have : (((L v).take j).filter fun t => t == (x : Int)).length ≤ ((L v).take j).length := List.length_filter_le _ _
        have h2 : ((L v).take j).length ≤ 4096 := by simp; omega
        omega
      have hax := haw.out x
      obtain ⟨z, hz⟩ : ∃ z, aw x - occ ((L v).take j) x = z := ⟨_, rfl⟩
      have hzr : -9100000 ≤ z ∧ z ≤ 9100000 := by omega
      have hwr : IntKind.i64.wrap (z - 1) = z - 1 := by rw [IntKind.wrap_i64]; first | omega | (unfold wrap64; omega)
      rw [hz] at ix
      have IN : Hid (IntsAt (wr.setCell ⟨ga, x, none⟩ (.int .i64 (z - 1))) ga n (fun y => aw y - occ ((L v).take (j + 1)) y)) :=
        (IntsAt.set I2 x (z - 1)).congr (fun y _ => by
          dsimp only
          rw [hsn, occ_snoc]
          by_cases e : y = x
          · subst e; simp; omega
          · have : ¬ (x : Int) = (y : Int) := by omega
            simp [e, this])
      have CN : Hid (Ch (fun k => k = ga) w3 (wr.setCell ⟨ga, x, none⟩ (.int .i64 (z - 1)))) := C2.setCell (F := fun k => k = ga) (p := ⟨ga, x, none⟩) rfl _
      clear hc1 hmem hxr hsn I2 C2 C3 hoc hax hz hx
      go_wp2_with fail
      go_roundw
      case rel => exact ⟨j + 1, by omega, by go_num, IN.out, CN.out⟩
      case measure => simp [intOf]; omega
    · obtain rfl : j = ll := by omega
      have hall : (L v).take j = L v := List.take_of_length_le (Nat.le_of_eq HLL.out)
      rw [hall] at I2
      have FIN : Hid (OAt W wr gc ga bo n (O ++ [v]) (comeNow cm v) (fun x => aw x - occ (L v) x)) := by
        obtain ⟨so2, sc2, h1, h2⟩ := M3.out.box
        exact ⟨M3.out.ch.trans (C2.mono (G := three gc ga bo) (fun k t => .inr (.inl t))), M3.out.bools.ch C2 d1, I2, ⟨so2, sc2, C2.cell h1 (fun t => d3 t.symm), C2.owns h2 (fun kk e t => by have := (h2.lt kk e).1; omega)⟩, (C2.frozen (o := 0) (lt_cell h1) (fun t => d3 t.symm)).trans M3.out.z⟩
      clear I2 C2 M3
      go_wp2_with fail
      go_end0
      exact ⟨rfl, FIN.out⟩
end Go.Proofs.Ytjheiaegpoppaaa
