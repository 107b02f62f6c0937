/- mustBeCircle. -/
import Derived.Test.YtomopfjaebcpeaaPrJ
import Derived.Deep.DeepCutAuto
import Derived.Deep.CutBlock
namespace Go.Proofs.Ytomopfjaebcpeaa
open Go.RowKit

/-- A made row of bools. -/
def BlsAt (w : World) (g n : Nat) (f : Nat → Bool) : Prop := w.rowIs g 4 n (fun i => .bool (f i))
theorem BlsAt.kept {w w' : World} {g n : Nat} {f : Nat → Bool} (h : BlsAt w g n f) (K : Kept w w') : BlsAt w' g n f := h.of_block (K.block g h.lt)
theorem BlsAt.ch {F : Nat → Prop} {w w' : World} {g n : Nat} {f : Nat → Bool} (h : BlsAt w g n f) (C : Ch F w w') (hF : ¬ F g) : BlsAt w' g n f := h.of_block (C.block g h.lt hF)
theorem BlsAt.cell {w : World} {g n : Nat} {f : Nat → Bool} (h : BlsAt w g n f) {i : Nat} (hi : i < n) : w.cell? ⟨g, i, none⟩ = some (.bool (f i)) := World.rowIs.cell h hi
theorem BlsAt.set {w : World} {g n : Nat} {f : Nat → Bool} (h : BlsAt w g n f) (i : Nat) (z : Bool) : BlsAt (w.setCell ⟨g, i, none⟩ (.bool z)) g n (fun j => if j = i then z else f j) :=
  (World.rowIs.set h i (.bool z)).congr (fun j _ => by by_cases e : j = i <;> simp [e])
theorem infoBl0 : (Try.prog.info? 4).map (fun i => (i.zero, i.size, i.bytes)) = some (some (.bool false), 1, 1) := by kernel_rfl

/-- Where a circle's edge begins, and ends. -/
def frm (es : List Ed) (c : List Int) (j : Nat) : Int := (edAt es (zAt c j).toNat).f
def tto (es : List Ed) (c : List Int) (j : Nat) : Int := (edAt es (zAt c j).toNat).t
/-- The place ahead. -/
def prv (L k : Nat) : Nat := if k = 0 then L - 1 else k - 1

/-- A circle: each edge begins where the one ahead of it ends, no two at one node. -/
structure CircOk (es : List Ed) (n : Nat) (c : List Int) (L : Nat) : Prop where
  pos : 0 < L
  rng : ∀ j, j < L → 0 ≤ zAt c j ∧ zAt c j < (n : Int)
  link : ∀ k, k < L → frm es c k = tto es c (prv L k)
  sole : ∀ k, k < L → ∀ j, j < k → frm es c j ≠ frm es c k

/-- At which nodes one of the first k edges begins. -/
def begTo (es : List Ed) (c : List Int) (k : Nat) (v : Nat) : Bool := (List.range k).any fun j => frm es c j == (v : Int)
theorem begTo_iff {es : List Ed} {c : List Int} {k v : Nat} : begTo es c k v = true ↔ ∃ j, j < k ∧ frm es c j = (v : Int) := by
  simp [begTo, List.any_eq_true]
theorem begTo_succ (es : List Ed) (c : List Int) (k v : Nat) : begTo es c (k + 1) v = if (v : Int) = frm es c k then true else begTo es c k v := by
  unfold begTo
  rw [List.range_succ, List.any_append]
  simp only [List.any_cons, List.any_nil, Bool.or_false]
  by_cases e : (v : Int) = frm es c k
  · rw [if_pos e, e]; simp
  · rw [if_neg e]
    have : (frm es c k == (v : Int)) = false := by simpa using fun t => e t.symm
    rw [this, Bool.or_false]

set_option maxRecDepth 100000 in
set_option linter.unusedSimpArgs false in
set_option maxHeartbeats 4000000 in
theorem circ_calls (ao : Option Addr) (N n cap : Nat) (es : List Ed) (co : Option Addr) (L cc : Nat) (c : List Int) (w : World) (h : ERow w ao n cap es) (hJ : JRow w co L cc c) (RG : Right N n es) :
    Calls Try.prog 66 #[.slice co L cc, .agg #[.int .i64 (N : Int), .slice ao n cap]] w fun e w' => Kept w w' ∧ ((CircOk es n c L ∧ e = .returned (.tuple #[])) ∨ (¬ CircOk es n c L ∧ e = .panicked [{ v := .iface 136 (.agg #[.int .i64 221]), recovered := false }])) := by
  have hr := h.room
  have hm := h.most
  have hr2 := hJ.room
  have hm2 := hJ.most
  unfold maxLen at hm hm2
  have hN := RG.nodes
  have hmk : ∀ w : World, (Instr.makeSlice 26 (.int .i64 (N : Int)) (.int .i64 (N : Int))).run Try.prog w = .ok (.slice (some ⟨w.heap.size, 0, none⟩) N N) (w.alloc (.cells (madeCells #[.bool false] N) 4)) :=
    fun w => run_make_row' 26 4 (.bool false) 1 Try.underlying26 infoBl0 rfl .i64 .i64 N (by omega) (by omega) w
  have KW : Kept w (w.alloc (Obj.cells #[.int .i64 (N : Int), .slice ao n cap] 24)) := (Kept.refl w).alloc _
  have hw1 : (w.alloc (Obj.cells #[.int .i64 (N : Int), .slice ao n cap] 24)).heap.size = w.heap.size + 1 := by simp
  have w0 : (w.alloc (Obj.cells #[.int .i64 (N : Int), .slice ao n cap] 24)).cell? ⟨w.heap.size, 0, none⟩ = some (.int .i64 (N : Int)) := by simp [go_sem]
  have w1 : (w.alloc (Obj.cells #[.int .i64 (N : Int), .slice ao n cap] 24)).cell? ⟨w.heap.size, 1, none⟩ = some (.slice ao n cap) := by simp [go_sem]
  have HE := hid_of (h.kept KW)
  have HJ := hid_of (hJ.kept KW)
  have RGH := hid_of RG
  clear h hJ RG
  by_cases hL : 0 < L
  rotate_left
  · obtain rfl : L = 0 := by omega
    go_enter Try.func66, Try.ntmps66
    go_wp2_with (go_at_call 53; refine (must_no _).mono ?_; rintro e w' ⟨rfl, rfl⟩)
    exact ⟨rfl, KW, .inr ⟨fun t => absurd t.pos (by omega), rfl⟩⟩
  have hLi : (0 : Int) < (L : Int) := by omega
  go_enter Try.func66, Try.ntmps66
  go_wp2_with (go_at_call 53; refine (must_ok _).mono ?_; rintro e w' ⟨rfl, rfl⟩)
  generalize hW1 : w.alloc (Obj.cells #[.int .i64 (N : Int), .slice ao n cap] 24) = W1 at KW HE HJ w0 w1 hw1 ⊢
  clear hW1
  go_loopw [5, 17] (fun _ i wr => ∃ (k : Nat), k ≤ L ∧ i = .int .i64 k ∧ W1 = wr ∧ ∀ j, j < k → 0 ≤ zAt c j ∧ zAt c j < (n : Int)) (fun _ i _ => L - (intOf i).toNat)
  case atStart => exact ⟨0, by omega, rfl, rfl, fun i hi => by omega⟩
  case round =>
    obtain ⟨k, hk, rfl, rfl, hno⟩ := hrel
    have HNO := hid_of hno
    clear hno
    by_cases hgo : (k : Int) < (L : Int)
    · obtain ⟨b2, off2, rfl, hc2⟩ := HJ.out.at (by omega)
      have d5 := hc2 k (by omega)
      clear hc2
      have HIT : Hid ((0 ≤ zAt c k ∧ zAt c k < (n : Int)) → ∀ j, j < k + 1 → 0 ≤ zAt c j ∧ zAt c j < (n : Int)) := fun hb i hi => by
        by_cases e : i = k
        · subst e; exact hb
        · exact HNO.out i (by omega)
      have MISS : Hid (¬ (0 ≤ zAt c k ∧ zAt c k < (n : Int)) → ¬ CircOk es n c L) := fun hb t => hb (t.rng k (by omega))
      generalize zAt c k = x at d5 HIT MISS
      clear HJ HE
      by_cases hx : 0 ≤ x
      · by_cases hy : x < (n : Int)
        · have P := hid_of (HIT.out ⟨hx, hy⟩)
          clear HIT MISS
          go_wp2_with (go_at_call 53; refine (must_ok _).mono ?_; rintro e w' ⟨rfl, rfl⟩)
          go_roundw
          case rel => exact ⟨k + 1, by omega, by go_num, by trivial, P.out⟩
          case measure => simp [intOf]; omega
        · have P := hid_of (MISS.out (fun t => hy t.2))
          have q : decide (x < (n : Int)) = false := decide_eq_false hy
          clear HIT MISS
          go_wp2_with (go_at_call 53; (try rw [show decide (x < (n : Int)) = false from decide_eq_false (by omega)]); refine (must_no _).mono ?_; rintro e w' ⟨rfl, rfl⟩)
          exact ⟨rfl, KW, .inr ⟨P.out, rfl⟩⟩
      · have P := hid_of (MISS.out (fun t => hx t.1))
        clear HIT MISS
        go_wp2_with (go_at_call 53; refine (must_no _).mono ?_; rintro e w' ⟨rfl, rfl⟩)
        exact ⟨rfl, KW, .inr ⟨P.out, rfl⟩⟩
    · obtain rfl : k = L := by omega
      have RNG := hid_of HNO.out
      clear HNO
      have R0 : BlsAt (W1.alloc (.cells (madeCells #[.bool false] N) 4)) (w.heap.size + 1) N (begTo es c 0) := by
        rw [← hw1]
        exact World.rowIs.congr (World.rowIs_made W1 (.bool false) N 4) (fun i _ => by simp [begTo])
      have KM : Kept W1 (W1.alloc (.cells (madeCells #[.bool false] N) 4)) := (Kept.refl W1).alloc _
      have KMH := hid_of KM
      have R0H := hid_of R0
      obtain ⟨r1, r2⟩ := RNG.out (k - 1) (by omega)
      obtain ⟨xl, hxl⟩ : ∃ xl : Nat, zAt c (k - 1) = (xl : Int) := ⟨(zAt c (k - 1)).toNat, by omega⟩
      have hxn : xl < n := by omega
      obtain ⟨b, off, rfl, hc⟩ := HE.out.cell (by omega)
      obtain ⟨c1, c2, c3, c4⟩ := hc xl (by omega)
      obtain ⟨b2, off2, rfl, hc2⟩ := HJ.out.at (by omega)
      have d5 := hc2 (k - 1) (by omega)
      have d5b : ∀ j, j < k → W1.cell? ⟨b2, off2 + j, none⟩ = some (.int .i64 (zAt c j)) := fun j hj => hc2 j hj
      rw [hxl] at d5
      have A0 : Hid ((edAt es xl).t = tto es c (prv k 0)) := by
        unfold tto prv
        rw [if_pos rfl, hxl, Int.toNat_natCast]
        rfl
      have v1 := KM.cell w1
      have v2 := KM.cell c2
      have v5 := KM.cell d5
      have hk1 : ((k : Int) - 1) = ((k - 1 : Nat) : Int) := by omega
      have hkw : IntKind.i64.wrap ((k - 1 : Nat) : Int) = ((k - 1 : Nat) : Int) := wrap_id (by omega) (by omega)
      have hkb : ((k - 1 : Nat) : Int) < (k : Int) := by omega
      have hkc : k - 1 < k := by omega
      generalize (edAt es xl).t = at0 at v2 A0
      clear R0 KM c1 c2 c3 c4 hc hc2 r1 r2 hxl
      go_upto_region 8 with fail
      generalize W1.alloc (.cells (madeCells #[.bool false] N) 4) = W2 at R0H KMH v1 v2 v5 ⊢
      refine Ord.region [(0, 0), (1, 1), (2, 0), (3, 0), (4, 0), (5, 0), (6, 0), (7, 1), (8, 0), (9, 0), (10, 1), (11, 0)] (fun w' => Kept W2 w') (by kernel_rfl) (by kernel_rfl) (by kernel_rfl) (by kernel_rfl) (fun _ _ d _ _ h => by cases d <;> exact h) ((Kept.refl _).drewN _) ?_
      repeat
        refine Ord.step rfl (fun Ko hK => ?_)
        simp only [Ord.body]
        go_simp
        first
          | (refine hK _ _ ?_; clear hK Ko)
          | (refine ⟨_, fun w' hS => (by have c0 := hS.cell v1; have c1 := hS.cell v5; have c2 := hS.cell v2; simp only [c0, c1, c2, Result.andThen]; rfl), hK _ _ ?_⟩; clear hK Ko)
      refine Ord.done ?_
      have R1H := hid_of (R0H.out.kept ((Kept.refl W2).drewN 1))
      have K1H := hid_of (KMH.out.drewN 1)
      clear v1 v2 v5 R0H KMH hxn hk1 hkw
      generalize W2.drewN 1 = W3 at R1H K1H ⊢
      rw [A0.out]
      clear A0
      go_wp2_with fail
      go_loopw [7, 9, 10, 48] (fun a _ _ i wr => ∃ (j : Nat), j ≤ k ∧ i = .int .i64 j ∧ a = .int .i64 (tto es c (prv k j)) ∧ BlsAt wr (w.heap.size + 1) N (begTo es c j) ∧ Kept W1 wr ∧ ∀ q, q < j → frm es c q = tto es c (prv k q) ∧ ∀ p, p < q → frm es c p ≠ frm es c q) (fun _ _ _ i _ => k - (intOf i).toNat)
      case atStart => exact ⟨0, by omega, rfl, rfl, R1H.out, K1H.out, fun i hi => by omega⟩
      case round =>
        obtain ⟨j, hj, rfl, rfl, BR, K, hno⟩ := hrel
        have HNO := hid_of hno
        clear hno R1H K1H
        have hw1' := K.cell w1
        by_cases hgo2 : (j : Int) < (k : Int)
        · have hjk : j < k := by omega
          have d5 := K.cell (d5b j hjk)
          obtain ⟨x1, x2⟩ := RNG.out j hjk
          have hat : ∃ a : Nat, tto es c (prv k j) = (a : Int) ∧ a < N := by
            have hp : prv k j < k := by unfold prv; split <;> omega
            obtain ⟨y1, y2⟩ := RNG.out _ hp
            obtain ⟨e1, e2, e3, e4⟩ := RGH.out.ends (zAt c (prv k j)).toNat (by omega)
            exact ⟨(tto es c (prv k j)).toNat, by unfold tto; omega, by unfold tto; omega⟩
          obtain ⟨a, hat, haN⟩ := hat
          have HAT := hid_of hat
          rw [hat]
          obtain ⟨xj, hxj⟩ : ∃ x : Nat, zAt c j = (x : Int) := ⟨(zAt c j).toNat, by omega⟩
          have hxn : xj < n := by omega
          have hxni : (xj : Int) < (n : Int) := by omega
          obtain ⟨b', off', heq, hc⟩ := HE.out.cell (by omega)
          obtain ⟨rfl, rfl⟩ : b' = b ∧ off' = off := by simp only [Option.some.injEq, Addr.mk.injEq, and_true] at heq; exact ⟨heq.1.symm, heq.2.symm⟩
          obtain ⟨c1, c2, c3, c4⟩ := hc xj hxn
          obtain ⟨e1, e2, e3, e4⟩ := RGH.out.ends xj hxn
          have FM : Hid (frm es c j = (edAt es xj).f) := by unfold frm; rw [hxj, Int.toNat_natCast]; rfl
          have TM : Hid ((edAt es xj).t = tto es c (prv k (j + 1))) := by unfold tto prv; rw [if_neg (by omega), show j + 1 - 1 = j by omega, hxj, Int.toNat_natCast]; rfl
          rw [hxj] at d5
          have d1 := K.cell c1
          have d2 := K.cell c2
          have d3 := K.cell c3
          have d4 := K.cell c4
          clear hc c1 c2 c3 c4 heq x1 x2 hxj
          generalize edAt es xj = e at d1 d2 d3 d4 e1 e2 e3 e4 FM TM
          obtain ⟨ef, et, ec, ek⟩ := e
          simp only at d1 d2 d3 d4 e1 e2 e3 e4 FM TM
          have KA := (Kept.refl wr).alloc (Obj.cells #[.int .i64 ef, .int .i64 et, .int .i64 ec, .int .i64 ek] 98)
          have BA := hid_of (BR.kept KA)
          have KE := hid_of (K.trans KA)
          have d6 : (wr.alloc (Obj.cells #[.int .i64 ef, .int .i64 et, .int .i64 ec, .int .i64 ek] 98)).cell? ⟨wr.heap.size, 0, none⟩ = some (.int .i64 ef) := by simp [go_sem]
          have d7 : (wr.alloc (Obj.cells #[.int .i64 ef, .int .i64 et, .int .i64 ec, .int .i64 ek] 98)).cell? ⟨wr.heap.size, 1, none⟩ = some (.int .i64 et) := by simp [go_sem]
          have hsz : w.heap.size + 1 < wr.heap.size := BR.lt
          go_upto_region 13 with fail
          generalize wr.alloc (Obj.cells #[.int .i64 ef, .int .i64 et, .int .i64 ec, .int .i64 ek] 98) = W4 at BA KE d6 d7 ⊢
          have da := BA.out.cell haN
          have fa := World.rowIs.frozen BA.out a
          clear d1 d2 d3 d4 d5 BR K KA hw1'
          have hnot : ∀ (x : Bool) (w : World), (Op.unary .not (.bool x)).run Try.prog w = .ok (.bool (!x)) w := fun _ _ => rfl
          by_cases hfa : ef = (a : Int)
          · have qf : (ef == (a : Int)) = true := by simp [hfa]
            have FMA : Hid (frm es c j = (a : Int)) := FM.out.trans hfa
            by_cases hbg : begTo es c j a = true
            · rw [hbg] at da
              have P : Hid (¬ CircOk es n c k) := fun t => by
                obtain ⟨q, hq, he⟩ := begTo_iff.1 hbg
                exact t.sole j hjk q hq (he.trans FMA.out.symm)
              clear hbg hfa
              go_wp2_with (go_at_call 53; refine (must_no _).mono ?_; rintro e w' ⟨rfl, rfl⟩)
              exact ⟨rfl, KW.trans KE.out, .inr ⟨P.out, rfl⟩⟩
            · have hbf : begTo es c j a = false := by simpa using hbg
              rw [hbf] at da
              have P : Hid (∀ q, q < j + 1 → frm es c q = tto es c (prv k q) ∧ ∀ p, p < q → frm es c p ≠ frm es c q) := fun q hq => by
                by_cases e : q = j
                · subst e
                  exact ⟨FMA.out.trans HAT.out.symm, fun p hp he => hbg (begTo_iff.2 ⟨p, hp, he.trans FMA.out⟩)⟩
                · exact HNO.out q (by omega)
              have BN : Hid (BlsAt (W4.setCell ⟨w.heap.size + 1, a, none⟩ (.bool true)) (w.heap.size + 1) N (begTo es c (j + 1))) := (BA.out.set a true).congr (fun v _ => by
                rw [begTo_succ, FMA.out]
                by_cases e : v = a
                · subst e; simp
                · have : ¬ (v : Int) = (a : Int) := by omega
                  simp [e, this])
              have KN : Hid (Kept W1 (W4.setCell ⟨w.heap.size + 1, a, none⟩ (.bool true))) := KE.out.setCell (p := ⟨w.heap.size + 1, a, none⟩) (by rw [hw1]; exact Nat.le_refl _) _
              have d8 : (W4.setCell ⟨w.heap.size + 1, a, none⟩ (.bool true)).cell? ⟨wr.heap.size, 1, none⟩ = some (.int .i64 et) := by
                rw [World.cell?_setCell_other _ _ _ _ (fun e => by have := congrArg Addr.block e; simp at this; omega)]; exact d7
              clear hbg hbf hfa BA KE
              go_wp2_with (go_at_call 53; refine (must_ok _).mono ?_; rintro e w' ⟨rfl, rfl⟩)
              go_roundw
              case rel => exact ⟨j + 1, by omega, by go_num, by rw [TM.out], BN.out, KN.out, P.out⟩
              case measure => simp [intOf]; omega
          · have qf : (ef == (a : Int)) = false := by simpa using hfa
            have P : Hid (¬ CircOk es n c k) := fun t => hfa (by rw [← FM.out, ← HAT.out]; exact t.link j hjk)
            clear hfa
            go_wp2_with (go_at_call 53; refine (must_no _).mono ?_; rintro e w' ⟨rfl, rfl⟩)
            exact ⟨rfl, KW.trans KE.out, .inr ⟨P.out, rfl⟩⟩
        · obtain rfl : j = k := by omega
          go_wp2
          exact bodyPost_end (v := .tuple #[]) (by simp [results, Try.results66]) rfl ⟨KW.trans K, .inl ⟨⟨hL, RNG.out, fun q hq => (HNO.out q hq).1, fun q hq => (HNO.out q hq).2⟩, rfl⟩⟩
end Go.Proofs.Ytomopfjaebcpeaa
