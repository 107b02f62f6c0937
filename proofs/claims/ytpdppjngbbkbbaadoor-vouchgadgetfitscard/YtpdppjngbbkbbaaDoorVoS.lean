/- Uneven nodes: everyEdge, oddEnds, slices.Equal. -/
import Derived.Test.YtpdppjngbbkbbaaDoorVoR
namespace Go.Proofs.YtpdppjngbbkbbaaDoor
open Go.RowKit

/-- One more end at a node. -/
def flip (b : Nat → Bool) (f : Int) (v : Nat) : Bool := if f = (v : Int) then !b v else b v
/-- At which nodes an odd number of ends of the first k of some edges lies. -/
def odTo (es : List Ed) (c : List Int) : Nat → Nat → Bool
  | 0 => fun _ => false
  | k + 1 => flip (flip (odTo es c k) (frm es c k)) (tto es c k)
theorem odTo_succ (es : List Ed) (c : List Int) (k : Nat) : odTo es c (k + 1) = flip (flip (odTo es c k) (frm es c k)) (tto es c k) := rfl
/-- The numbers below k that are so, rising. -/
def unevTo (p : Nat → Bool) : Nat → List Int
  | 0 => []
  | k + 1 => if p k then unevTo p k ++ [(k : Int)] else unevTo p k
theorem unevTo_succ (p : Nat → Bool) (k : Nat) : unevTo p (k + 1) = if p k then unevTo p k ++ [(k : Int)] else unevTo p k := rfl
theorem unevTo_len (p : Nat → Bool) (k : Nat) : (unevTo p k).length ≤ k := by
  induction k with
  | zero => exact Nat.le_refl _
  | succ k ih =>
    rw [unevTo_succ]
    split
    · simp; omega
    · omega
theorem unevTo_rng (p : Nat → Bool) (k : Nat) : ∀ x ∈ unevTo p k, 0 ≤ x ∧ x < (k : Int) := by
  induction k with
  | zero => intro x hx; cases hx
  | succ k ih =>
    intro x hx
    rw [unevTo_succ] at hx
    split at hx
    · rcases List.mem_append.1 hx with h | h
      · have := ih x h; omega
      · simp at h; omega
    · have := ih x hx; omega
theorem unevTo_congr {p q : Nat → Bool} {k : Nat} (h : ∀ v, v < k → p v = q v) : unevTo p k = unevTo q k := by
  induction k with
  | zero => rfl
  | succ k ih => rw [unevTo_succ, unevTo_succ, ih (fun v hv => h v (by omega)), h k (by omega)]
/-- All numbers below n. -/
def allTo (n : Nat) : List Int := (List.range n).map fun (i : Nat) => (i : Int)
theorem allTo_len (n : Nat) : (allTo n).length = n := by simp [allTo]
theorem allTo_at {n i : Nat} (h : i < n) : zAt (allTo n) i = (i : Int) := by simp [zAt, allTo, List.getD, h]

set_option maxRecDepth 100000 in
set_option linter.unusedSimpArgs false in
set_option maxHeartbeats 2000000 in
theorem every_calls (nodes : Int) (ao : Option Addr) (n cap : Nat) (hn : n ≤ 4096) (w : World) :
    Calls Tryd.prog 80 #[.agg #[.int .i64 nodes, .slice ao n cap]] w fun r w' => ∃ g, r = .returned (.slice (some ⟨g, 0, none⟩) n n) ∧ JRow w' (some ⟨g, 0, none⟩) n n (allTo n) ∧ Kept w w' := by
  have hmk : ∀ w : World, (Instr.makeSlice 25 (.int .i64 (n : Int)) (.int .i64 (n : Int))).run Tryd.prog w = .ok (.slice (some ⟨w.heap.size, 0, none⟩) n n) (w.alloc (.cells (madeCells #[.int .i64 0] n) 3)) :=
    fun w => run_make_row' 25 3 (.int .i64 0) 8 Tryd.underlying25 infoJ0 rfl .i64 .i64 n (by omega) (by omega) w
  have KW : Kept w (w.alloc (Obj.cells #[.int .i64 nodes, .slice ao n cap] 24)) := (Kept.refl w).alloc _
  have w1 : (w.alloc (Obj.cells #[.int .i64 nodes, .slice ao n cap] 24)).cell? ⟨w.heap.size, 1, none⟩ = some (.slice ao n cap) := by simp [go_sem]
  go_enter Tryd.func80, Tryd.ntmps80
  go_upto_region 1 with fail
  generalize w.alloc (Obj.cells #[.int .i64 nodes, .slice ao n cap] 24) = W1 at KW w1 ⊢
  obtain ⟨q, hq⟩ : ∃ q, W1.heap.size = q := ⟨_, rfl⟩
  have hwq : w.heap.size ≤ q := by rw [← hq]; exact KW.size
  have KM : Kept W1 (W1.alloc (.cells (madeCells #[.int .i64 0] n) 3)) := (Kept.refl W1).alloc _
  have I0 : IntsAt (W1.alloc (.cells (madeCells #[.int .i64 0] n) 3)) q n (fun v => if v < 0 then (v : Int) else 0) := by
    rw [← hq]; exact World.rowIs.congr (World.rowIs_made W1 (.int .i64 0) n 3) (fun i _ => by simp)
  go_upto_region 2 with fail
  have HK := hid_of (KW.trans KM)
  have IH := hid_of I0
  generalize W1.alloc (.cells (madeCells #[.int .i64 0] n) 3) = W2 at HK IH ⊢
  clear hmk KM I0 KW w1 hq
  go_wp2_with fail
  go_loopw [4, 11] (fun _ i wr => ∃ (k : Nat), k ≤ n ∧ i = .int .i64 k ∧ Kept w wr ∧ IntsAt wr q n (fun v => if v < k then (v : Int) else 0)) (fun _ i _ => n - (intOf i).toNat)
  case atStart => exact ⟨0, by omega, rfl, HK.out, IH.out⟩
  case round =>
    obtain ⟨k, hk, rfl, K, I⟩ := hrel
    have KH := hid_of K
    have IRH := hid_of I
    clear HK IH K I
    by_cases hgo : (k : Int) < (n : Int)
    · have hkn : k < n := by omega
      have ck := IRH.out.cell hkn
      simp only [Nat.lt_irrefl, if_false] at ck
      have fk := World.rowIs.frozen IRH.out k
      have IN : Hid (IntsAt (wr.setCell ⟨q, k, none⟩ (.int .i64 (k : Int))) q n (fun v => if v < k + 1 then (v : Int) else 0)) := (IRH.out.set k (k : Int)).congr (fun v _ => by
        show Value.int .i64 (if v = k then (k : Int) else if v < k then (v : Int) else 0) = .int .i64 (if v < k + 1 then (v : Int) else 0)
        by_cases e1 : v = k
        · subst e1; rw [if_pos rfl, if_pos (by omega)]
        · rw [if_neg e1]
          by_cases e2 : v < k
          · rw [if_pos e2, if_pos (by omega)]
          · rw [if_neg e2, if_neg (by omega)])
      have KN : Hid (Kept w (wr.setCell ⟨q, k, none⟩ (.int .i64 (k : Int)))) := KH.out.setCell (p := ⟨q, k, none⟩) hwq _
      clear IRH KH
      go_wp2_with fail
      go_roundw
      case rel => exact ⟨k + 1, by omega, by go_num, KN.out, IN.out⟩
      case measure => simp [intOf]; omega
    · obtain rfl : k = n := by omega
      have JF : JRow wr (some ⟨q, 0, none⟩) k k (allTo k) := ⟨by rw [allTo_len], Nat.le_refl _, by unfold maxLen; omega, fun _ => ⟨q, 0, rfl, fun i hi => by
        rw [Nat.zero_add, IRH.out.cell hi]
        have e : (allTo k).getD i 0 = (i : Int) := allTo_at hi
        rw [e, if_pos hi]⟩⟩
      have JFH := hid_of JF
      clear JF IRH
      go_wp2
      go_ret
      exact ⟨q, rfl, JFH.out, KH.out⟩

set_option maxRecDepth 100000 in
set_option linter.unusedSimpArgs false in
set_option maxHeartbeats 2000000 in
theorem equal_calls (ao : Option Addr) (n cap : Nat) (xs : List Int) (bo : Option Addr) (m bc : Nat) (ys : List Int) (z : Bool) (hY : Hid (xs = ys → z = true)) (hN : Hid (xs ≠ ys → z = false)) (w : World) (hA : JRow w ao n cap xs) (hB : JRow w bo m bc ys) :
    Calls Tryd.prog 83 #[.slice ao n cap, .slice bo m bc] w fun r w' => r = .returned (.bool z) ∧ Kept w w' := by
  have hr1 := hA.room
  have hm1 := hA.most
  have hr2 := hB.room
  have hm2 := hB.most
  unfold maxLen at hm1 hm2
  by_cases hnm : n = m
  rotate_left
  · have P := hid_of (hN.out (fun t => hnm (by rw [hA.len, hB.len, t])))
    have q : ((n : Int) != (m : Int)) = true := by rw [bne_iff_ne]; omega
    go_enter Tryd.func83, Tryd.ntmps83
    go_wp2_with fail
    go_ret
    exact ⟨by rw [P.out]; rfl, Kept.refl _⟩
  subst hnm
  have q : ((n : Int) != (n : Int)) = false := by simp
  have HA := hid_of hA
  have HB := hid_of hB
  clear hA hB
  go_enter Tryd.func83, Tryd.ntmps83
  go_wp2_with fail
  go_loopw [5, 13] (fun _ i wr => ∃ (k : Nat), k ≤ n ∧ i = .int .i64 k ∧ Kept w wr ∧ ∀ j, j < k → zAt xs j = zAt ys j) (fun _ i _ => n - (intOf i).toNat)
  case atStart => exact ⟨0, by omega, rfl, Kept.refl _, fun i hi => by omega⟩
  case round =>
    obtain ⟨k, hk, rfl, K, hno⟩ := hrel
    have HNO := hid_of hno
    have KH := hid_of K
    clear hno
    by_cases hgo : (k : Int) < (n : Int)
    · obtain ⟨b1, o1, rfl, hc1⟩ := (HA.out.kept K).at (by omega)
      obtain ⟨b2, o2, rfl, hc2⟩ := (HB.out.kept K).at (by omega)
      have d1 := hc1 k (by omega)
      have d2 := hc2 k (by omega)
      have HIT : Hid (zAt xs k = zAt ys k → ∀ j, j < k + 1 → zAt xs j = zAt ys j) := fun hb i hi => by
        by_cases e : i = k
        · subst e; exact hb
        · exact HNO.out i (by omega)
      have MISS : Hid (zAt xs k ≠ zAt ys k → xs ≠ ys) := fun hb t => hb (by rw [t])
      generalize zAt xs k = x at d1 HIT MISS
      generalize zAt ys k = y at d2 HIT MISS
      clear hc1 hc2 K
      by_cases he : x = y
      · have P := hid_of (HIT.out he)
        have qx : (x != y) = false := by simp [he]
        clear HIT MISS he
        go_wp2_with fail
        refine Ord.region [(0, 0), (1, 0), (2, 0), (3, 1), (4, 0), (5, 0), (6, 0), (7, 1), (8, 0)] (fun w' => Kept wr w') (by kernel_rfl) (by kernel_rfl) (by kernel_rfl) (by kernel_rfl) (fun _ _ d _ _ h => by cases d <;> exact h) ((Kept.refl _).drewN _) ?_
        repeat
          refine Ord.step rfl (fun Ko hK => ?_)
          simp only [Ord.body]
          go_simp
          first
            | (refine hK _ _ ?_; clear hK Ko)
            | (refine ⟨_, fun w' hS => (by have c0 := hS.cell d1; have c1 := hS.cell d2; simp only [c0, c1, Result.andThen]; rfl), hK _ _ ?_⟩; clear hK Ko)
        refine Ord.done ?_
        go_wp2
        go_roundw
        case rel => exact ⟨k + 1, by omega, by go_num, KH.out.drewN _, P.out⟩
        case measure => simp [intOf]; omega
      · have P := hid_of (hN.out (MISS.out he))
        have qx : (x != y) = true := by rw [bne_iff_ne]; exact he
        clear HIT MISS he
        go_wp2_with fail
        refine Ord.region [(0, 0), (1, 0), (2, 0), (3, 1), (4, 0), (5, 0), (6, 0), (7, 1), (8, 0)] (fun w' => Kept wr w') (by kernel_rfl) (by kernel_rfl) (by kernel_rfl) (by kernel_rfl) (fun _ _ d _ _ h => by cases d <;> exact h) ((Kept.refl _).drewN _) ?_
        repeat
          refine Ord.step rfl (fun Ko hK => ?_)
          simp only [Ord.body]
          go_simp
          first
            | (refine hK _ _ ?_; clear hK Ko)
            | (refine ⟨_, fun w' hS => (by have c0 := hS.cell d1; have c1 := hS.cell d2; simp only [c0, c1, Result.andThen]; rfl), hK _ _ ?_⟩; clear hK Ko)
        refine Ord.done ?_
        go_wp2
        go_ret
        exact ⟨by rw [P.out]; rfl, KH.out.drewN _⟩
    · obtain rfl : k = n := by omega
      have e : xs = ys := by
        have la := HA.out.len
        have lb := HB.out.len
        refine List.ext_getElem (by omega) fun i h1 h2 => ?_
        have := HNO.out i (by omega)
        unfold zAt at this
        simpa [List.getD, h1, h2] using this
      have P := hid_of (hY.out e)
      clear K e HNO
      go_wp2
      go_ret
      exact ⟨by rw [P.out]; rfl, KH.out⟩
end Go.Proofs.YtpdppjngbbkbbaaDoor
