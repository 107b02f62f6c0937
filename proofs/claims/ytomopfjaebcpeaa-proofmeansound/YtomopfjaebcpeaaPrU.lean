/- Acyclic. -/
import Derived.Test.YtomopfjaebcpeaaPrT
namespace Go.Proofs.Ytomopfjaebcpeaa
open Go.RowKit

/-- Where a node stands first among the first k; -1: nowhere. -/
def plTo (o : List Int) : Nat → Int → Int
  | 0, _ => -1
  | k + 1, v => if 0 ≤ plTo o k v then plTo o k v else if zAt o k = v then (k : Int) else -1
theorem plTo_succ (o : List Int) (k : Nat) (v : Int) : plTo o (k + 1) v = if 0 ≤ plTo o k v then plTo o k v else if zAt o k = v then (k : Int) else -1 := rfl
theorem plTo_facts (o : List Int) (v : Int) : ∀ k, (plTo o k v = -1 ∧ ∀ j, j < k → zAt o j ≠ v) ∨ (∃ j : Nat, j < k ∧ plTo o k v = (j : Int) ∧ zAt o j = v ∧ ∀ q, q < j → zAt o q ≠ v)
  | 0 => .inl ⟨rfl, fun j hj => absurd hj (Nat.not_lt_zero j)⟩
  | k + 1 => by
    rw [plTo_succ]
    rcases plTo_facts o v k with ⟨h1, h2⟩ | ⟨j, hj, h1, h2, h3⟩
    · rw [h1, if_neg (by omega)]
      by_cases e : zAt o k = v
      · rw [if_pos e]
        exact .inr ⟨k, by omega, rfl, e, h2⟩
      · rw [if_neg e]
        exact .inl ⟨rfl, fun j hj => by
          by_cases ej : j = k
          · subst ej; exact e
          · exact h2 j (by omega)⟩
    · rw [h1, if_pos (by omega)]
      exact .inr ⟨j, by omega, rfl, h2, h3⟩

/-- The place of a node in the program's row. -/
def plP (o : List Int) (k : Nat) (v : Nat) : Int := if 0 ≤ plTo o k (v : Int) then plTo o k (v : Int) else 0
/-- An order of the nodes in which each edge goes on. -/
def AcyOk (es : List Ed) (N n : Nat) (o : List Int) (m : Nat) : Prop :=
  m = N ∧ (∀ j, j < N → (0 ≤ zAt o j ∧ zAt o j < (N : Int)) ∧ plTo o j (zAt o j) = -1) ∧ ∀ i, i < n → plP o N (edAt es i).f.toNat < plP o N (edAt es i).t.toNat

theorem pl_set {o : List Int} {k a : Nat} (ha : zAt o k = (a : Int)) (hn : plTo o k (a : Int) = -1) (v : Nat) : plTo o (k + 1) (v : Int) = if v = a then (k : Int) else plTo o k (v : Int) := by
  rw [plTo_succ, ha]
  by_cases e : v = a
  · subst e
    rw [hn]
    simp
  · have : ¬ (a : Int) = (v : Int) := fun t => e (by omega)
    rw [if_neg e, if_neg this]
    rcases plTo_facts o (v : Int) k with ⟨h1, -⟩ | ⟨j, -, h1, -⟩ <;> rw [h1] <;> simp

set_option maxRecDepth 100000 in
set_option linter.unusedSimpArgs false in
set_option maxHeartbeats 4000000 in
theorem acycLook_calls (fb gb : Nat) (oo : Option Addr) (m oc : Nat) (o : List Int) (N : Nat) (ao : Option Addr) (n cap : Nat) (es : List Ed) (w : World) (f0 : w.cell? ⟨fb, 0, none⟩ = some (.slice oo m oc)) (hG : GBox w gb (N : Int) ao n cap) (h : ERow w ao n cap es) (hO : JRow w oo m oc o) (RG : Right N n es) :
    Calls Try.prog 68 #[.pointer (some ⟨fb, 0, none⟩), .pointer (some ⟨gb, 0, none⟩)] w fun e w' =>
      (AcyOk es N n o m ∧ e = .returned (.tuple #[]) ∧ Kept w w') ∨ (¬ AcyOk es N n o m ∧ e = .panicked [{ v := .iface 136 (.agg #[.int .i64 221]), recovered := false }] ∧ Kept w w') := by
  obtain ⟨g0, g1⟩ := hG
  have hN := RG.nodes
  have HE := hid_of h
  have HO := hid_of hO
  have RGH := hid_of RG
  have hr1 := h.room
  have hm1 := h.most
  have hr2 := hO.room
  have hm2 := hO.most
  unfold maxLen at hm1 hm2
  have hmkB : ∀ w : World, (Instr.makeSlice 26 (.int .i64 (N : Int)) (.int .i64 (N : Int))).run Try.prog w = .ok (.slice (some ⟨w.heap.size, 0, none⟩) N N) (w.alloc (.cells (madeCells #[.bool false] N) 4)) :=
    fun w => run_make_row' 26 4 (.bool false) 1 Try.underlying26 infoBl0 rfl .i64 .i64 N (by omega) (by omega) w
  have hmkI : ∀ w : World, (Instr.makeSlice 43 (.int .i64 (N : Int)) (.int .i64 (N : Int))).run Try.prog w = .ok (.slice (some ⟨w.heap.size, 0, none⟩) N N) (w.alloc (.cells (madeCells #[.int .i64 0] N) 3)) :=
    fun w => run_make_row' 43 3 (.int .i64 0) 8 Try.underlying43 infoJ0 rfl .i64 .i64 N (by omega) (by omega) w
  have gb0 := lt_cell g0
  have fb0 := lt_cell f0
  simp only at gb0 fb0
  clear h hO RG
  by_cases hkN : m = N
  rotate_left
  · have q : ((m : Int) == (N : Int)) = false := by simp; omega
    go_enter Try.func68, Try.ntmps68
    go_wp2_with (go_at_call 53; refine (must_no _).mono ?_; rintro e w' ⟨rfl, rfl⟩)
    exact ⟨rfl, .inr ⟨fun t => hkN t.1, rfl, Kept.refl _⟩⟩
  subst hkN
  have qkk : ((m : Int) == (m : Int)) = true := by simp
  have K1 : Kept w (w.alloc (.cells (madeCells #[.bool false] m) 4)) := (Kept.refl w).alloc _
  have B0 : BlsAt (w.alloc (.cells (madeCells #[.bool false] m) 4)) w.heap.size m (fun v => decide (0 ≤ plTo o 0 (v : Int))) := World.rowIs.congr (World.rowIs_made w (.bool false) m 4) (fun i _ => by simp [plTo])
  have hz1 : (w.alloc (.cells (madeCells #[.bool false] m) 4)).heap.size = w.heap.size + 1 := by simp
  go_enter Try.func68, Try.ntmps68
  go_upto_region 1 with (go_at_call 53; refine (must_ok _).mono ?_; rintro e w' ⟨rfl, rfl⟩)
  go_upto_region 2 with fail
  generalize w.alloc (.cells (madeCells #[.bool false] m) 4) = W1 at K1 B0 hz1 ⊢
  replace g0 := K1.cell g0
  replace g1 := K1.cell g1
  replace f0 := K1.cell f0
  have K2 : Kept W1 (W1.alloc (.cells (madeCells #[.int .i64 0] m) 3)) := (Kept.refl W1).alloc _
  have I0 : IntsAt (W1.alloc (.cells (madeCells #[.int .i64 0] m) 3)) (w.heap.size + 1) m (fun v => plP o 0 v) := by
    rw [← hz1]
    exact World.rowIs.congr (World.rowIs_made W1 (.int .i64 0) m 3) (fun i _ => by simp [plP, plTo])
  have B1 := hid_of (B0.kept K2)
  have I1 := hid_of I0
  have HK := hid_of (K1.trans K2)
  have G0 := hid_of (K2.cell g0)
  have G1 := hid_of (K2.cell g1)
  have F0 := hid_of (K2.cell f0)
  go_upto_region 3 with fail
  generalize W1.alloc (.cells (madeCells #[.int .i64 0] m) 3) = W2 at B1 I1 HK G0 G1 F0 ⊢
  replace g0 := G0.out
  replace g1 := G1.out
  replace f0 := F0.out
  clear hmkB hmkI K1 B0 hz1 K2 I0 G0 G1 F0
  go_wp2_with fail
  go_loopw [4, 5, 22] (fun _ _ i wr => ∃ (k : Nat), k ≤ m ∧ i = .int .i64 k ∧ BlsAt wr w.heap.size m (fun v => decide (0 ≤ plTo o k (v : Int))) ∧ IntsAt wr (w.heap.size + 1) m (fun v => plP o k v) ∧ Kept w wr ∧ wr.cell? ⟨gb, 0, none⟩ = some (.int .i64 (m : Int)) ∧ wr.cell? ⟨gb, 1, none⟩ = some (.slice ao n cap) ∧ ∀ j, j < k → (0 ≤ zAt o j ∧ zAt o j < (m : Int)) ∧ plTo o j (zAt o j) = -1) (fun _ _ i _ => m - (intOf i).toNat)
  case atStart => exact ⟨0, by omega, rfl, B1.out, I1.out, HK.out, g0, g1, fun i hi => by omega⟩
  case round =>
    obtain ⟨k, hk, rfl, BR, IR, K, g0, g1, hno⟩ := hrel
    have HNO := hid_of hno
    clear hno B1 I1 HK
    by_cases hgo : (k : Int) < (m : Int)
    · obtain ⟨b2, off2, rfl, hc2⟩ := (HO.out.kept K).at (by omega)
      have d5 := hc2 k (by omega)
      clear hc2
      have HIT : Hid ((0 ≤ zAt o k ∧ zAt o k < (m : Int)) ∧ plTo o k (zAt o k) = -1 → ∀ j, j < k + 1 → (0 ≤ zAt o j ∧ zAt o j < (m : Int)) ∧ plTo o j (zAt o j) = -1) := fun hb i hi => by
        by_cases e : i = k
        · subst e; exact hb
        · exact HNO.out i (by omega)
      have MISS : Hid (¬ ((0 ≤ zAt o k ∧ zAt o k < (m : Int)) ∧ plTo o k (zAt o k) = -1) → ¬ AcyOk es m n o m) := fun hb t => hb (t.2.1 k (by omega))
      have hnot : ∀ (x : Bool) (w : World), (Op.unary .not (.bool x)).run Try.prog w = .ok (.bool (!x)) w := fun _ _ => rfl
      by_cases hr : 0 ≤ zAt o k ∧ zAt o k < (m : Int)
      rotate_left
      · have P := hid_of (MISS.out (fun t => hr t.1))
        generalize zAt o k = x at d5 hr
        have CN := hid_of (isNodeP_no x (m : Int) hr (.slice ao n cap) wr)
        have HK2 := hid_of K
        clear HIT MISS hr BR IR K
        go_wp2_with fail
        refine CN.out.mono ?_
        rintro e w5 ⟨rfl, K5⟩
        have HK3 := hid_of (HK2.out.trans K5)
        clear K5 CN
        go_wp2_with (go_at_call 53; refine (must_no _).mono ?_; rintro e w' ⟨rfl, rfl⟩)
        exact ⟨rfl, .inr ⟨P.out, rfl, HK3.out⟩⟩
      obtain ⟨a, ha⟩ : ∃ a : Nat, zAt o k = (a : Int) := ⟨(zAt o k).toNat, by omega⟩
      have ham : a < m := by omega
      have hai : (a : Int) < (m : Int) := by omega
      have CN := hid_of (isNodeP_yes (a : Int) (m : Int) ⟨by omega, hai⟩ (.slice ao n cap) wr)
      rw [ha] at d5
      have HA := hid_of ha
      have BRH := hid_of BR
      have IRH := hid_of IR
      have HK2 := hid_of K
      clear BR IR K ha hr
      go_wp2_with fail
      refine CN.out.mono ?_
      rintro e w5 ⟨rfl, K5⟩
      have B5 := BRH.out.kept K5
      have I5 := IRH.out.kept K5
      have HK3 := hid_of (HK2.out.trans K5)
      replace g0 := K5.cell g0
      replace g1 := K5.cell g1
      have da := B5.cell ham
      have fa := World.rowIs.frozen B5 a
      have db := I5.cell ham
      have fb' := World.rowIs.frozen I5 a
      have B5H := hid_of B5
      have I5H := hid_of I5
      clear K5 CN BRH IRH HK2 B5 I5
      by_cases hin : 0 ≤ plTo o k (a : Int)
      · have P := hid_of (MISS.out (fun t => by rw [HA.out] at t; omega))
        rw [decide_eq_true hin] at da
        clear HIT MISS hin
        go_wp2_with (go_at_call 53; refine (must_no _).mono ?_; rintro e w' ⟨rfl, rfl⟩)
        exact ⟨rfl, .inr ⟨P.out, rfl, HK3.out⟩⟩
      · have hm1' : plTo o k (a : Int) = -1 := by
          rcases plTo_facts o (a : Int) k with ⟨h1, -⟩ | ⟨j, -, h1, -⟩
          · exact h1
          · omega
        have P := hid_of (HIT.out ⟨by rw [HA.out]; omega, by rw [HA.out]; exact hm1'⟩)
        rw [decide_eq_false hin] at da
        have PS : Hid (∀ v : Nat, plTo o (k + 1) (v : Int) = if v = a then (k : Int) else plTo o k (v : Int)) := pl_set HA.out hm1'
        have BN : Hid (BlsAt (w5.setCell ⟨w.heap.size, a, none⟩ (.bool true)) w.heap.size m (fun v => decide (0 ≤ plTo o (k + 1) (v : Int)))) := (B5H.out.set a true).congr (fun v _ => by
          simp only []
          rw [PS.out v]
          by_cases e : v = a
          · subst e; simp
          · simp [e])
        have C1 : Ch (fun i => i = w.heap.size) w5 (w5.setCell ⟨w.heap.size, a, none⟩ (.bool true)) := Ch.setCell (F := fun i => i = w.heap.size) (Ch.refl _ w5) (p := ⟨w.heap.size, a, none⟩) rfl _
        have I6 : IntsAt (w5.setCell ⟨w.heap.size, a, none⟩ (.bool true)) (w.heap.size + 1) m (fun v => plP o k v) := I5H.out.ch C1 (by omega)
        have IN : Hid (IntsAt ((w5.setCell ⟨w.heap.size, a, none⟩ (.bool true)).setCell ⟨w.heap.size + 1, a, none⟩ (.int .i64 (k : Int))) (w.heap.size + 1) m (fun v => plP o (k + 1) v)) := World.rowIs.congr (I6.set a (k : Int)) (fun v _ => by
          unfold plP
          simp only []
          rw [PS.out v]
          by_cases e : v = a
          · subst e; simp
          · simp [e])
        have C2 : Ch (fun i => i = w.heap.size + 1) (w5.setCell ⟨w.heap.size, a, none⟩ (.bool true)) ((w5.setCell ⟨w.heap.size, a, none⟩ (.bool true)).setCell ⟨w.heap.size + 1, a, none⟩ (.int .i64 (k : Int))) := Ch.setCell (F := fun i => i = w.heap.size + 1) (Ch.refl _ _) (p := ⟨w.heap.size + 1, a, none⟩) rfl _
        have BN2 : Hid (BlsAt ((w5.setCell ⟨w.heap.size, a, none⟩ (.bool true)).setCell ⟨w.heap.size + 1, a, none⟩ (.int .i64 (k : Int))) w.heap.size m (fun v => decide (0 ≤ plTo o (k + 1) (v : Int)))) := BN.out.ch C2 (by omega)
        have KN : Hid (Kept w ((w5.setCell ⟨w.heap.size, a, none⟩ (.bool true)).setCell ⟨w.heap.size + 1, a, none⟩ (.int .i64 (k : Int)))) := (HK3.out.ch C1 (fun i hi => by omega)).ch C2 (fun i hi => by omega)
        have g0' := hid_of (C2.cell (C1.cell g0 (by omega)) (by omega))
        have g1' := hid_of (C2.cell (C1.cell g1 (by omega)) (by omega))
        have db' : (w5.setCell ⟨w.heap.size, a, none⟩ (.bool true)).cell? ⟨w.heap.size + 1, a, none⟩ = some (.int .i64 (plP o k a)) := I6.cell ham
        have fb'' : (w5.setCell ⟨w.heap.size, a, none⟩ (.bool true)).frozen? ⟨w.heap.size + 1, a, none⟩ = false := World.rowIs.frozen I6 a
        clear HIT MISS hin hm1' PS BN C1 I6 C2
        go_wp2_with (go_at_call 53; refine (must_ok _).mono ?_; rintro e w' ⟨rfl, rfl⟩)
        go_roundw
        case rel => exact ⟨k + 1, by omega, by go_num, BN2.out, IN.out, KN.out, g0'.out, g1'.out, P.out⟩
        case measure => simp [intOf]; omega
    · obtain rfl : k = m := by omega
      have ORD := hid_of HNO.out
      have IRH := hid_of IR
      have HK2 := hid_of K
      clear HNO BR IR K
      go_wp2_with fail
      go_loopw [7, 49] (fun _ i w2 => ∃ (j : Nat), j ≤ n ∧ i = .int .i64 j ∧ Kept wr w2 ∧ ∀ q, q < j → plP o k (edAt es q).f.toNat < plP o k (edAt es q).t.toNat) (fun _ i _ => n - (intOf i).toNat)
      case atStart => exact ⟨0, by omega, rfl, Kept.refl _, fun i hi => by omega⟩
      case round =>
        obtain ⟨j, hj, rfl, K, hok⟩ := hrel
        have HOK := hid_of hok
        clear hok
        by_cases hgo : (j : Int) < (n : Int)
        · obtain ⟨b, off, rfl, hc⟩ := (HE.out.kept (HK2.out.trans K)).cell (by omega)
          obtain ⟨d1, d2, d3, d4⟩ := hc j (by omega)
          obtain ⟨e1, e2, e3, e4⟩ := RGH.out.ends j (by omega)
          have IR := IRH.out.kept K
          have HIT : Hid (plP o k (edAt es j).f.toNat < plP o k (edAt es j).t.toNat → ∀ q, q < j + 1 → plP o k (edAt es q).f.toNat < plP o k (edAt es q).t.toNat) := fun hb i hi => by
            by_cases e : i = j
            · subst e; exact hb
            · exact HOK.out i (by omega)
          have MISS : Hid (¬ plP o k (edAt es j).f.toNat < plP o k (edAt es j).t.toNat → ¬ AcyOk es k n o k) := fun hb q => hb (q.2.2 j (by omega))
          clear hc
          generalize edAt es j = e at d1 d2 d3 d4 e1 e2 e3 e4 HIT MISS
          obtain ⟨ef, et, ec, ek⟩ := e
          simp only at d1 d2 d3 d4 e1 e2 e3 e4 HIT MISS
          obtain ⟨fn, rfl⟩ : ∃ fn : Nat, ef = (fn : Int) := ⟨ef.toNat, by omega⟩
          obtain ⟨tn, rfl⟩ : ∃ tn : Nat, et = (tn : Int) := ⟨et.toNat, by omega⟩
          simp only [Int.toNat_natCast] at HIT MISS
          have d5 : wr.cell? ⟨w.heap.size + 1, fn, none⟩ = some (.int .i64 (plP o k fn)) := IR.cell (by omega)
          have d6 : wr.cell? ⟨w.heap.size + 1, tn, none⟩ = some (.int .i64 (plP o k tn)) := IR.cell (by omega)
          generalize plP o k fn = x at d5 HIT MISS
          generalize plP o k tn = y at d6 HIT MISS
          have KE := hid_of (K.alloc (Obj.cells #[.int .i64 (fn : Int), .int .i64 (tn : Int), .int .i64 ec, .int .i64 ek] 98))
          have KA := (Kept.refl wr).alloc (Obj.cells #[.int .i64 (fn : Int), .int .i64 (tn : Int), .int .i64 ec, .int .i64 ek] 98)
          replace d5 := KA.cell d5
          replace d6 := KA.cell d6
          have a0 : (wr.alloc (Obj.cells #[.int .i64 (fn : Int), .int .i64 (tn : Int), .int .i64 ec, .int .i64 ek] 98)).cell? ⟨wr.heap.size, 0, none⟩ = some (.int .i64 (fn : Int)) := by simp [go_sem]
          have a1 : (wr.alloc (Obj.cells #[.int .i64 (fn : Int), .int .i64 (tn : Int), .int .i64 ec, .int .i64 ek] 98)).cell? ⟨wr.heap.size, 1, none⟩ = some (.int .i64 (tn : Int)) := by simp [go_sem]
          clear KA K IR
          go_wp2_with fail
          generalize wr.alloc (Obj.cells #[.int .i64 (fn : Int), .int .i64 (tn : Int), .int .i64 ec, .int .i64 ek] 98) = W2 at KE d5 d6 a0 a1 ⊢
          clear d1 d2 d3 d4
          by_cases hle : x < y
          · have P := hid_of (HIT.out hle)
            have qd : decide (x < y) = true := decide_eq_true hle
            clear HIT MISS
            refine Ord.region [(0, 0), (1, 0), (2, 1), (3, 0), (4, 1), (5, 0), (6, 0), (7, 1), (8, 0), (9, 1), (10, 0), (11, 2)] (fun w' => Kept W2 w') (by kernel_rfl) (by kernel_rfl) (by kernel_rfl) (by kernel_rfl) (fun _ _ d _ _ h => by cases d <;> exact h) ((Kept.refl _).drewN _) ?_
            repeat
              refine Ord.step rfl (fun Ko hK => ?_)
              simp only [Ord.body]
              go_simp
              first
                | (refine hK _ _ ?_; clear hK Ko)
                | (refine ⟨_, fun w' hS => (by have c0 := hS.cell d5; have c1 := hS.cell d6; have c2 := hS.cell a0; have c3 := hS.cell a1; simp only [c0, c1, c2, c3, Result.andThen]; rfl), hK _ _ ?_⟩; clear hK Ko)
                | (go_at_call 53; refine (must_ok _).mono ?_; rintro e w' ⟨rfl, rfl⟩; refine ⟨(Kept.refl _).drewN _, hK _ _ ?_⟩; clear hK Ko)
            refine Ord.done ?_
            go_wp2
            go_roundw
            case rel => exact ⟨j + 1, by omega, by go_num, KE.out.drewN _, P.out⟩
            case measure => simp [intOf]; omega
          · have P := hid_of (MISS.out (by omega))
            have qd : decide (x < y) = false := decide_eq_false hle
            clear HIT MISS
            refine Ord.region [(0, 0), (1, 0), (2, 1), (3, 0), (4, 1), (5, 0), (6, 0), (7, 1), (8, 0), (9, 1), (10, 0), (11, 2)] (fun w' => Kept W2 w') (by kernel_rfl) (by kernel_rfl) (by kernel_rfl) (by kernel_rfl) (fun _ _ d _ _ h => by cases d <;> exact h) ((Kept.refl _).drewN _) ?_
            repeat
              refine Ord.step rfl (fun Ko hK => ?_)
              simp only [Ord.body]
              go_simp
              first
                | (refine hK _ _ ?_; clear hK Ko)
                | (refine ⟨_, fun w' hS => (by have c0 := hS.cell d5; have c1 := hS.cell d6; have c2 := hS.cell a0; have c3 := hS.cell a1; simp only [c0, c1, c2, c3, Result.andThen]; rfl), hK _ _ ?_⟩; clear hK Ko)
                | (go_at_call 53; refine (must_no _).mono ?_; rintro e w' ⟨rfl, rfl⟩)
            go_simp
            exact ⟨rfl, .inr ⟨P.out, rfl, HK2.out.trans (KE.out.drewN _)⟩⟩
        · obtain rfl : j = n := by omega
          have P : Hid (AcyOk es k j o k) := ⟨rfl, ORD.out, HOK.out⟩
          have HK5 := hid_of (HK2.out.trans K)
          clear ORD HOK K
          go_wp2
          exact bodyPost_end (v := .tuple #[]) (by simp [results, Try.results68]) rfl (.inl ⟨P.out, rfl, HK5.out⟩)

/-- The wrap of Acyclic. -/
theorem acyc_wrap (nodes : Int) (ao : Option Addr) (n cap : Nat) (oo : Option Addr) (m oc : Nat) (w : World) (z : Int)
    (HC : ∀ w1, Kept w w1 → GBox w1 w.heap.size nodes ao n cap → w1.cell? ⟨w.heap.size + 1, 0, none⟩ = some (.slice oo m oc) →
      Calls Try.prog 48 #[.agg #[.int .i64 nodes, .slice ao n cap], .func (.func 68) #[] #[.pointer (some ⟨w.heap.size + 1, 0, none⟩), .pointer (some ⟨w.heap.size, 0, none⟩)]] w1 fun e w2 => e = .returned (.int .i64 z) ∧ Kept w1 w2) :
    Calls Try.prog 24 #[.agg #[.int .i64 nodes, .slice ao n cap], .slice oo m oc] w fun e w' => e = .returned (.int .i64 z) ∧ Kept w w' := by
  have hmf : ∀ (fn : Fn) (first cap : Array Value) (w : World), (Instr.makeFunc fn first cap).run Try.prog w = .ok (.func fn first cap) w := fun _ _ _ _ => rfl
  have KW : Kept w ((w.alloc (Obj.cells #[.int .i64 nodes, .slice ao n cap] 24)).alloc (Obj.cells #[Value.slice oo m oc] 43)) := ((Kept.refl w).alloc _).alloc _
  have c1 : ((w.alloc (Obj.cells #[.int .i64 nodes, .slice ao n cap] 24)).alloc (Obj.cells #[Value.slice oo m oc] 43)).cell? ⟨w.heap.size + 1, 0, none⟩ = some (.slice oo m oc) := by simp [go_sem]
  have hG : GBox ((w.alloc (Obj.cells #[.int .i64 nodes, .slice ao n cap] 24)).alloc (Obj.cells #[Value.slice oo m oc] 43)) w.heap.size nodes ao n cap := ⟨by simp [go_sem], by simp [go_sem]⟩
  have HCH := hid_of (HC _ KW hG c1)
  clear HC hG c1
  go_enter Try.func24, Try.ntmps24
  go_wp2_with fail
  generalize (w.alloc (Obj.cells #[.int .i64 nodes, .slice ao n cap] 24)).alloc (Obj.cells #[Value.slice oo m oc] 43) = W0 at KW HCH ⊢
  refine HCH.out.mono ?_
  rintro e wa ⟨rfl, K1⟩
  have HK := hid_of (KW.trans K1)
  clear KW K1 HCH
  go_wp2
  go_ret
  exact ⟨rfl, HK.out⟩

open Classical in
/-- What Acyclic answers. -/
noncomputable def acycAns (nodes : Int) (es : List Ed) (n : Nat) (o : List Int) (m : Nat) : Int :=
  if (faultOf nodes es).1 ≠ 0 then (faultOf nodes es).1 else if AcyOk es nodes.toNat n o m then 0 else 221

set_option maxRecDepth 100000 in
theorem acycEnter (a b : Value) : ∀ w, Sem.run Try.prog (callFunc 68 #[a, b]) w = .ok (.enter 68 #[a, b]) w := fun _ => rfl

set_option maxRecDepth 100000 in
set_option linter.unusedSimpArgs false in
theorem acyc_calls (nodes : Int) (ao : Option Addr) (n cap : Nat) (es : List Ed) (oo : Option Addr) (m oc : Nat) (o : List Int) (w : World) (h : ERow w ao n cap es) (hO : JRow w oo m oc o) (z : Int) (hans : Hid (acycAns nodes es n o m = z)) :
    Calls Try.prog 24 #[.agg #[.int .i64 nodes, .slice ao n cap], .slice oo m oc] w fun e w' => e = .returned (.int .i64 z) ∧ Kept w w' := by
  refine acyc_wrap nodes ao n cap _ _ _ w z fun w1 K1 G c1 => ?_
  replace hans := hans.out
  unfold acycAns at hans
  by_cases hc : (faultOf nodes es).1 = 0
  · have hf := fault_zero hc
    rw [if_neg (by simp [hc])] at hans
    obtain ⟨N, rfl, RG⟩ := right_of hf
    rw [← h.len] at RG
    simp only [Int.toNat_natCast] at hans
    have L := fun (w2 : World) (K : Kept w1 w2) => acycLook_calls (w.heap.size + 1) w.heap.size oo m oc o N ao n cap es w2 (K.cell c1) (G.kept K) (h.kept (K1.trans K)) (hO.kept (K1.trans K)) RG
    by_cases ok : AcyOk es N n o m
    · rw [if_pos ok] at hans
      subst hans
      exact looked_okK (N : Int) ao n cap es w1 (h.kept K1) (hid_of hf) 68 #[.pointer (some ⟨w.heap.size + 1, 0, none⟩), .pointer (some ⟨w.heap.size, 0, none⟩)] (acycEnter _ _) fun w2 K => (L w2 K).mono fun e w3 hp => by
        rcases hp with ⟨_, h1, h2⟩ | ⟨h1, _⟩
        · exact ⟨h1, h2⟩
        · exact absurd ok h1
    · rw [if_neg ok] at hans
      subst hans
      exact looked_no (N : Int) ao n cap es w1 (h.kept K1) (hid_of hf) 68 #[.pointer (some ⟨w.heap.size + 1, 0, none⟩), .pointer (some ⟨w.heap.size, 0, none⟩)] (acycEnter _ _) 221 fun w2 K => (L w2 K).mono fun e w3 hp => by
        rcases hp with ⟨h1, _⟩ | ⟨_, h1, h2⟩
        · exact absurd h1 ok
        · exact ⟨h1, h2⟩
  · obtain ⟨c, a, hf⟩ : ∃ c a, faultOf nodes es = (c, a) := ⟨_, _, rfl⟩
    rw [hf] at hans hc
    rw [if_pos hc] at hans
    subst hans
    exact looked_bad nodes ao n cap es w1 (h.kept K1) c a (hid_of hf) hc _
end Go.Proofs.Ytomopfjaebcpeaa
