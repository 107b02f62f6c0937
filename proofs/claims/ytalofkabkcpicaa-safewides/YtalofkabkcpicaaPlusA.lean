/- The document's sum of numbers of any length, where the signs are the same. -/
import Derived.Test.YtalofkabkcpicaaAbove
import Derived.OwnWalk
namespace Go.Proofs.Ytalofkabkcpicaa
open Go.RowKit

theorem Try.infoU : (Try.prog.info? 38).map (fun i => (i.zero, i.size, i.bytes)) = some (some (.int .u64 0), 1, 8) := by kernel_rfl

theorem at_quiet (ao : Option Addr) (n cap : Nat) (ds : List Nat) (i : Int) (w : World) (q : Nat) (h : Row w ao n cap ds) (h0 : 0 ≤ i) :
    Calls Try.prog 35 #[.slice ao n cap, .int .i64 i] (w.drewN q) fun e w'' => e = .returned (.int .u64 ((ds.getD i.toNat 0 : Nat) : Int)) ∧ ∃ m, w'' = w.drewN m :=
  (at_calls ao n cap ds i _ (h.kept ((Kept.refl _).drewN _)) h0).mono fun _ _ ⟨he, hw⟩ => ⟨he, q, hw.symm⟩

theorem at_quietN (ao : Option Addr) (n cap : Nat) (ds : List Nat) (k x : Nat) (w : World) (q : Nat) (h : Row w ao n cap ds) (hx : x = ds.getD k 0) :
    Calls Try.prog 35 #[.slice ao n cap, .int .i64 (k : Int)] (w.drewN q) fun e w'' => e = .returned (.int .u64 (x : Int)) ∧ ∃ m, w'' = w.drewN m := by
  have := at_quiet ao n cap ds (k : Int) w q h (by omega)
  rw [Int.toNat_natCast, ← hx] at this
  exact this

/-- The boxes of the arguments and of the answer. -/
def plusW (w : World) (m1 m2 : Bool) (ao bo : Option Addr) (n1 c1 n2 c2 : Nat) : World :=
  ((w.alloc (Obj.cells #[.bool m1, .slice ao n1 c1] 25)).alloc (Obj.cells #[.bool m2, .slice bo n2 c2] 25)).alloc (Obj.cells #[.bool false, .slice none 0 0] 25)

theorem plusW_kept (w : World) (m1 m2 : Bool) (ao bo : Option Addr) (n1 c1 n2 c2 : Nat) : Kept w (plusW w m1 m2 ao bo n1 c1 n2 c2) := (((Kept.refl _).alloc _).alloc _).alloc _
theorem plusW_size (w : World) (m1 m2 : Bool) (ao bo : Option Addr) (n1 c1 n2 c2 : Nat) : (plusW w m1 m2 ao bo n1 c1 n2 c2).heap.size = w.heap.size + 3 := by simp [plusW]

/-- What the boxes hold behind whatever came since. -/
theorem plusW_cells {w wr : World} {m1 m2 : Bool} {ao bo : Option Addr} {n1 c1 n2 c2 : Nat} (h : Kept (plusW w m1 m2 ao bo n1 c1 n2 c2) wr) :
    wr.cell? ⟨w.heap.size, 0, none⟩ = some (.bool m1) ∧ wr.cell? ⟨w.heap.size, 1, none⟩ = some (.slice ao n1 c1) ∧ wr.cell? ⟨w.heap.size + 1, 0, none⟩ = some (.bool m2) ∧ wr.cell? ⟨w.heap.size + 1, 1, none⟩ = some (.slice bo n2 c2) ∧
    wr.cell? ⟨w.heap.size + 1 + 1, 0, none⟩ = some (.bool false) ∧ wr.cell? ⟨w.heap.size + 1 + 1, 1, none⟩ = some (.slice none 0 0) ∧ wr.frozen? ⟨w.heap.size + 1 + 1, 0, none⟩ = false ∧ wr.frozen? ⟨w.heap.size + 1 + 1, 1, none⟩ = false ∧ w.heap.size + 3 ≤ wr.heap.size := by
  have hs := h.size
  rw [plusW_size] at hs
  refine ⟨h.cell (by simp [plusW, go_sem]), h.cell (by simp [plusW, go_sem]), h.cell (by simp [plusW, go_sem]), h.cell (by simp [plusW, go_sem]), h.cell (by simp [plusW, go_sem]), h.cell (by simp [plusW, go_sem]), ?_, ?_, hs⟩
  · rw [Below.frozen h (by rw [plusW_size]; show w.heap.size + 1 + 1 < _; omega)]; simp [plusW, go_sem]
  · rw [Below.frozen h (by rw [plusW_size]; show w.heap.size + 1 + 1 < _; omega)]; simp [plusW, go_sem]

theorem mask16 (x : Nat) (hx : x < 18446744073709551616) : bits .and .u64 (x : Int) 65535 = ((x % 65536 : Nat) : Int) := by
  have := u64_and_nat x 65535 hx (by omega)
  rw [show ((65535 : Nat) : Int) = 65535 from rfl] at this
  rw [this, Nat.and_two_pow_sub_one_eq_mod x 16]

/-- What the round of the sum keeps. -/
structure PlusRel (w W : World) (da db : List Nat) (N k cc : Nat) (ds : List Nat) (v : Value) (wr : World) : Prop where
  kN : k ≤ N + 1
  c1 : cc ≤ 1
  last : k = N + 1 → cc = 0
  len : ds.length = k
  ok : Dg.Ok ds
  val : Dg.val ds + 65536 ^ k * cc = Dg.val (da.take k) + Dg.val (db.take k)
  own : wr.ownsRow (w.heap.size + 3) 38 1 v k (vals ds)
  kept : Kept W wr

theorem PlusRel.step {w W wr w1 : World} {da db : List Nat} {N k cc : Nat} {ds : List Nat} {v v' : Value} (h : PlusRel w W da db N k cc ds v wr) (ka : Dg.Ok da) (kb : Dg.Ok db) (hN : da.length ≤ N) (hM : db.length ≤ N)
    (hgo : k < da.length ∨ k < db.length ∨ 0 < cc) (hW : W.heap.size = w.heap.size + 3)
    (own : w1.ownsRow (w.heap.size + 3) 38 1 v' (k + 1) (vals ds ++ [.int .u64 (((da.getD k 0 + db.getD k 0 + cc) % 65536 : Nat) : Int)])) (grow : ∃ o, (wr.alloc o).grownBy w1 v.ownBlock) :
    PlusRel w W da db N (k + 1) ((da.getD k 0 + db.getD k 0 + cc) / 65536) (ds ++ [(da.getD k 0 + db.getD k 0 + cc) % 65536]) v' w1 := by
  have h1 := ka k
  have h2 := kb k
  have h3 := h.c1
  have h4 := h.kN
  have h5 := h.last
  refine ⟨by omega, by omega, ?_, by simp [h.len], Dg.ok_snoc h.ok (by omega), ?_, by rw [← vals_snoc]; exact own, ?_⟩
  · intro e
    have e1 : da.getD k 0 = 0 := by simp [List.getD, List.getElem?_eq_none (by omega : da.length ≤ k)]
    have e2 : db.getD k 0 = 0 := by simp [List.getD, List.getElem?_eq_none (by omega : db.length ≤ k)]
    rw [e1, e2]; omega
  · rw [Dg.val_snoc, h.len, Nat.pow_succ, Dg.val_take_step, Dg.val_take_step]
    exact Dg.plus_step (65536 ^ k) (Dg.val (da.take k)) (Dg.val (db.take k)) (Dg.val ds) (da.getD k 0) (db.getD k 0) cc h.val
  · obtain ⟨o, hg⟩ := grow
    have hk := h.kept.alloc o
    refine Below.grown hk hg hk.size ?_
    intro j hj
    rw [hW]
    exact (h.own.lt j hj).1

/-- The end of the sum. -/
theorem PlusRel.done {w W wr : World} {da db : List Nat} {N k cc : Nat} {ds : List Nat} {v : Value} (h : PlusRel w W da db N k cc ds v wr) (h1 : da.length ≤ k) (h2 : db.length ≤ k) (h3 : cc = 0) : Dg.val ds = Dg.val da + Dg.val db := by
  have := h.val
  rw [h3, Dg.val_take_all _ _ h1, Dg.val_take_all _ _ h2] at this
  simpa using this

theorem owns_drewN {w : World} {base e : Nat} {v : Value} {n : Nat} {xs : List Value} (h : w.ownsRow base e 1 v n xs) (q : Nat) : (w.drewN q).ownsRow base e 1 v n xs := h

theorem owns_slice {w : World} {base e : Nat} {v : Value} {n : Nat} {xs : List Value} (h : w.ownsRow base e 1 v n xs) : ∃ ao cap, v = .slice ao n cap := by
  rcases h.2 with ⟨rfl, rfl⟩ | ⟨g, cap, cur, rfl, _⟩
  · exact ⟨none, 0, rfl⟩
  · exact ⟨_, cap, rfl⟩

set_option maxHeartbeats 1000000 in
theorem plus_same (m : Bool) (ao bo : Option Addr) (n1 c1 n2 c2 : Nat) (da db : List Nat) (w : World) (ra : Row w ao n1 c1 da) (rb : Row w bo n2 c2 db) (ka : Dg.Canon da) (kb : Dg.Canon db) (ln1 : n1 ≤ 1000) (ln2 : n2 ≤ 1000) (hs : Hid (m = true → da ≠ []))
    (z : Int) (hz : Hid (z = if m then -((Dg.val da + Dg.val db : Nat) : Int) else ((Dg.val da + Dg.val db : Nat) : Int))) :
    Calls Try.prog 13 #[.agg #[.bool m, .slice ao n1 c1], .agg #[.bool m, .slice bo n2 c2]] w fun e w' => ∃ v, e = .returned v ∧ BigAt w' v z ∧ Kept w w' := by
  have la1 : n1 ≤ da.length := Nat.le_of_eq ra.len
  have la2 : da.length ≤ n1 := Nat.le_of_eq ra.len.symm
  have lb1 : n2 ≤ db.length := Nat.le_of_eq rb.len
  have lb2 : db.length ≤ n2 := Nat.le_of_eq rb.len.symm
  obtain ⟨i0, hi, hz0, hz1, hz2⟩ := info_parts Try.infoU
  have hK := plusW_kept w m m ao bo n1 c1 n2 c2
  have hS := plusW_size w m m ao bo n1 c1 n2 c2
  have HS := hid_of hS
  clear hS
  have heq : ((m : Bool) == m) = true := by simp
  go_enter Try.func13, Try.ntmps13
  go_wp2
  go_loopw [5, 6, 7] (fun d c i wr => ∃ k cc ds, PlusRel w (plusW w m m ao bo n1 c1 n2 c2) da db (max n1 n2) k cc ds d wr ∧ i = .int .i64 (k : Nat) ∧ c = .int .u64 (cc : Nat)) (fun _ _ i _ => max n1 n2 + 1 - (intOf i).toNat)
  case atStart =>
    refine ⟨0, 0, [], ⟨by omega, by omega, fun _ => rfl, rfl, Dg.ok_nil, by simp [Dg.val], World.ownsRow_nil _ _ _ _, Kept.refl _⟩, rfl, rfl⟩
  case round =>
    obtain ⟨k, cc, ds, R, rfl, rfl⟩ := hrel
    obtain ⟨q1, q2, q3, q4, q5, q6, q7, q8, q9⟩ := plusW_cells R.kept
    have kN := R.kN
    have kc := R.c1
    have hlast := hid_of R.last
    have hN : n1 ≤ max n1 n2 := Nat.le_max_left _ _
    have hM : n2 ≤ max n1 n2 := Nat.le_max_right _ _
    have hmx : max n1 n2 ≤ 1000 := Nat.max_le.2 ⟨ln1, ln2⟩
    have ra' := (ra.kept hK).kept R.kept
    have rb' := (rb.kept hK).kept R.kept
    have ok1 := ka.1 k
    have ok2 := kb.1 k
    by_cases hgo : k < n1 ∨ k < n2 ∨ 0 < cc
    · have HG := hid_of hgo
      obtain ⟨x, ex⟩ : ∃ x, x = da.getD k 0 := ⟨_, rfl⟩
      obtain ⟨y, ey⟩ : ∃ y, y = db.getD k 0 := ⟨_, rfl⟩
      rw [← ex] at ok1
      rw [← ey] at ok2
      have EX := hid_of ex
      have EY := hid_of ey
      clear ex ey
      have hmask := mask16 (x + y + cc) (by omega)
      rw [show ((x + y + cc : Nat) : Int) = (x : Int) + (y : Int) + (cc : Int) from by omega] at hmask
      have hgo3 : ((k : Int) < (n1 : Int)) ∨ (¬ ((k : Int) < (n1 : Int)) ∧ ((k : Int) < (n2 : Int))) ∨ (¬ ((k : Int) < (n1 : Int)) ∧ ¬ ((k : Int) < (n2 : Int)) ∧ (0 : Int) < (cc : Int)) := by omega
      clear hgo
      rcases hgo3 with g1 | ⟨g1, g2⟩ | ⟨g1, g2, g3⟩
      all_goals
        go_wp2
        go_quiet ((first | (go_at_call_of 35 (Value.slice ao n1 c1); exact at_quietN _ _ _ _ _ _ _ _ ra' EX.out) | (go_at_call_of 35 (Value.slice bo n2 c2); exact at_quietN _ _ _ _ _ _ _ _ rb' EY.out)))
        go_wp2_with (at_builtin; refine wpList_append_own _ rfl _ _ 23 rfl (w.heap.size + 3) 38 i0 (.int .u64 0) 1 8 Try.underlying23 hi hz0 hz1 hz2 rfl (by decide) _ _ _ rfl ((owns_drewN R.own _).alloc _) ⟨wr.heap.size, 0, none⟩ 1 1 [.int .u64 (((x : Int) + (y : Int) + (cc : Int)) % 65536)] rfl rfl (cell_one_new _ _ _) (by intro u hu; simp at hu; subst hu; rfl) (by unfold maxLen; omega) (by omega) (by simp; omega) ?_)
        intro v' w1 hown hgrow _
        go_wp2_with fail
        go_roundw
        case rel =>
          have hst := R.step ka.1 kb.1 (by omega) (by omega) (by have := HG.out; omega) HS.out (v' := v') (w1 := w1) (by rw [← EX.out, ← EY.out, show (((x + y + cc) % 65536 : Nat) : Int) = ((x : Int) + (y : Int) + (cc : Int)) % 65536 from by omega]; exact hown) ⟨_, ⟨hgrow.os, hgrow.tape, hgrow.output, hgrow.size, hgrow.block⟩⟩
          rw [← EX.out, ← EY.out] at hst
          exact ⟨k + 1, (x + y + cc) / 65536, _, hst, by go_num, by go_num⟩
        case measure =>
          have := HG.out
          have := hlast.out
          simp [intOf]
          omega
    · have g1 : ¬ ((k : Int) < (n1 : Int)) := by omega
      have g2 : ¬ ((k : Int) < (n2 : Int)) := by omega
      have g3 : ¬ ((0 : Int) < (cc : Int)) := by omega
      have hval := R.done (by omega) (by omega) (by omega)
      obtain ⟨so, cap, rfl⟩ := owns_slice R.own
      have hrow := Row.of_owns (ds := ds) (by rw [R.len]; exact R.own) R.len.symm
      have HV := hid_of hval
      have HR := hid_of R.len
      clear hgo hval
      go_wp2_with fail
      go_region_with (go_at_call 36; refine (trim_calls _ _ _ _ _ (hrow.kept ((Kept.refl _).drewN _)) R.ok).mono ?_; rintro e w' ⟨⟨j, rfl, hj, hc, hv⟩, rfl⟩)
      all_goals
        obtain ⟨r1, r2, r3, r4⟩ := box2w (w := wr.drewN 1) q5 q6 (.bool m) (.slice so j cap)
        have hbig : BigAt (wr.drewN 1) (.agg #[.bool m, .slice so j cap]) z := BigAt.mk' ((hrow.kept ((Kept.refl _).drewN 1)).take j hj) hc (fun e1 e2 => by
          have e3 := val_pos ka (hs.out e1)
          rw [e2, HV.out] at hv
          simp [Dg.val] at hv
          omega) (by rw [hz.out, hv, HV.out])
        clear hv hc
        go_wp2
        refine bodyPost_ret (v := .agg #[.bool m, .slice so j cap]) (by simp [results, Try.results13, go_sem, r3, r4]) rfl ⟨_, rfl, hbig.box2w q5 q6 _ _, ?_⟩
        exact (((hK.trans R.kept).drewN 1).setCell (by show w.heap.size ≤ w.heap.size + 1 + 1; omega) _).setCell (by show w.heap.size ≤ w.heap.size + 1 + 1; omega) _
end Go.Proofs.Ytalofkabkcpicaa
