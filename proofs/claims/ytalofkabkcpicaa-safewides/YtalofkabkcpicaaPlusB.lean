/- The document's sum of numbers of any length, where the signs differ; and the sum of any two. -/
import Derived.Test.YtalofkabkcpicaaPlusA
import Derived.Deep.DeepCutAuto
namespace Go.Proofs.Ytalofkabkcpicaa
open Go.RowKit

/-- Ahead of the loop: the greater number lies in the first box. -/
structure SubW (w : World) (z : Int) (mA : Bool) (aA : Option Addr) (nA cA : Nat) (dA : List Nat) (aB : Option Addr) (nB cB : Nat) (dB : List Nat) (wc : World) : Prop where
  q1 : wc.cell? ⟨w.heap.size, 0, none⟩ = some (.bool mA)
  q2 : wc.cell? ⟨w.heap.size, 1, none⟩ = some (.slice aA nA cA)
  q4 : wc.cell? ⟨w.heap.size + 1, 1, none⟩ = some (.slice aB nB cB)
  q5 : wc.cell? ⟨w.heap.size + 1 + 1, 0, none⟩ = some (.bool false)
  q6 : wc.cell? ⟨w.heap.size + 1 + 1, 1, none⟩ = some (.slice none 0 0)
  q7 : wc.frozen? ⟨w.heap.size + 1 + 1, 0, none⟩ = false
  q8 : wc.frozen? ⟨w.heap.size + 1 + 1, 1, none⟩ = false
  q9 : w.heap.size + 3 ≤ wc.heap.size
  kept : Kept w wc
  ra : Row wc aA nA cA dA
  rb : Row wc aB nB cB dB
  ka : Dg.Canon dA
  kb : Dg.Canon dB
  la : nA ≤ 1000
  le : Dg.val dB ≤ Dg.val dA
  hz : z = if mA then -((Dg.val dA - Dg.val dB : Nat) : Int) else ((Dg.val dA - Dg.val dB : Nat) : Int)

/-- What the round of the difference keeps. -/
structure SubRel (wc : World) (dA dB : List Nat) (k cc : Nat) (ds : List Nat) (v : Value) (wr : World) : Prop where
  kN : k ≤ dA.length
  c1 : cc ≤ 1
  len : ds.length = k
  ok : Dg.Ok ds
  val : Dg.val ds + Dg.val (dB.take k) = Dg.val (dA.take k) + 65536 ^ k * cc
  own : wr.ownsRow wc.heap.size 38 1 v k (vals ds)
  kept : Kept wc wr

theorem SubRel.step {wc wr w1 : World} {dA dB : List Nat} {k cc : Nat} {ds : List Nat} {v v' : Value} (h : SubRel wc dA dB k cc ds v wr) (ka : Dg.Ok dA) (kb : Dg.Ok dB) (hk : k < dA.length)
    (own : w1.ownsRow wc.heap.size 38 1 v' (k + 1) (vals ds ++ [.int .u64 (((dA.getD k 0 + 65536 - dB.getD k 0 - cc) % 65536 : Nat) : Int)])) (grow : ∃ o, (wr.alloc o).grownBy w1 v.ownBlock) :
    SubRel wc dA dB (k + 1) (1 - (dA.getD k 0 + 65536 - dB.getD k 0 - cc) / 65536) (ds ++ [(dA.getD k 0 + 65536 - dB.getD k 0 - cc) % 65536]) v' w1 := by
  have h1 := ka k
  have h2 := kb k
  have h3 := h.c1
  refine ⟨by omega, by omega, by simp [h.len], Dg.ok_snoc h.ok (by omega), ?_, by rw [← vals_snoc]; exact own, ?_⟩
  · rw [Dg.val_snoc, h.len, Nat.pow_succ, Dg.val_take_step, Dg.val_take_step]
    rcases Dg.less_step (65536 ^ k) (Dg.val (dA.take k)) (Dg.val (dB.take k)) (Dg.val ds) (dA.getD k 0) (dB.getD k 0) cc h2 h3 h.val with h4 | h4
    · exact h4
    · omega
  · obtain ⟨o, hg⟩ := grow
    have hk := h.kept.alloc o
    exact Below.grown hk hg hk.size fun j hj => (h.own.lt j hj).1

theorem SubRel.done {wc wr : World} {dA dB : List Nat} {k cc : Nat} {ds : List Nat} {v : Value} (h : SubRel wc dA dB k cc ds v wr) (ka : Dg.Canon dA) (kb : Dg.Canon dB) (hl : dA.length ≤ k) (hle : Dg.val dB ≤ Dg.val dA) : Dg.val ds = Dg.val dA - Dg.val dB := by
  have hlen : dB.length ≤ dA.length := Nat.le_of_not_lt fun hlt => by have := Dg.len_lt ka kb hlt; omega
  have hv := h.val
  rw [Dg.val_take_all dA k hl, Dg.val_take_all dB k (by omega)] at hv
  have h2 := Dg.val_lt h.ok
  rw [h.len] at h2
  have hc : cc = 0 := by
    rcases Nat.eq_zero_or_pos cc with h0 | h0
    · exact h0
    · have h4 : 65536 ^ k * 1 ≤ 65536 ^ k * cc := Nat.mul_le_mul_left _ h0
      omega
  rw [hc] at hv
  omega

theorem mask16s (x b c : Nat) (hx : x < 65536) (hb : b < 65536) (hc : c ≤ 1) : bits .and .u64 ((x : Int) + 65536 - (b : Int) - (c : Int)) 65535 = ((x : Int) + 65536 - (b : Int) - (c : Int)) % 65536 := by
  have := mask16 (x + 65536 - b - c) (by omega)
  rw [show ((x + 65536 - b - c : Nat) : Int) = (x : Int) + 65536 - (b : Int) - (c : Int) from by omega] at this
  rw [this]
  omega

/-- The world behind the exchange of the two boxes. -/
def swapW (w : World) (m1 m2 : Bool) (ao bo : Option Addr) (n1 c1 n2 c2 n : Nat) : World :=
  (((((((((w.alloc (Obj.cells #[Value.bool m1, Value.slice ao n1 c1] 25)).alloc (Obj.cells #[Value.bool m2, Value.slice bo n2 c2] 25)).alloc (Obj.cells #[Value.bool false, Value.slice none 0 0] 25)).drewN n).setCell ⟨w.heap.size, 0, none⟩ (Value.bool m2)).setCell ⟨w.heap.size, 1, none⟩ (Value.slice bo n2 c2)).setCell ⟨w.heap.size + 1, 0, none⟩ (Value.bool m1)).setCell ⟨w.heap.size + 1, 1, none⟩ (Value.slice ao n1 c1)).alloc (Obj.cells #[Value.bool m1, Value.slice ao n1 c1] 25))

theorem swapW_kept (w : World) (m1 m2 : Bool) (ao bo : Option Addr) (n1 c1 n2 c2 n : Nat) : Kept w (swapW w m1 m2 ao bo n1 c1 n2 c2 n) :=
  ((((((plusW_kept w m1 m2 ao bo n1 c1 n2 c2).drewN n).setCell (Nat.le_refl _) _).setCell (Nat.le_refl _) _).setCell (Nat.le_succ _) _).setCell (Nat.le_succ _) _).alloc _

theorem swapW_sub (w : World) (z : Int) (m1 m2 : Bool) (ao bo : Option Addr) (n1 c1 n2 c2 n : Nat) (da db : List Nat) (ra : Row w ao n1 c1 da) (rb : Row w bo n2 c2 db) (ka : Dg.Canon da) (kb : Dg.Canon db) (ln2 : n2 ≤ 1000) (le : Dg.val da ≤ Dg.val db)
    (hz : z = if m2 then -((Dg.val db - Dg.val da : Nat) : Int) else ((Dg.val db - Dg.val da : Nat) : Int)) : SubW w z m2 bo n2 c2 db ao n1 c1 da (swapW w m1 m2 ao bo n1 c1 n2 c2 n) := by
  have hk := swapW_kept w m1 m2 ao bo n1 c1 n2 c2 n
  have e1 : ∀ (X : World) (q : Addr) (v : Value), (X.drewN n).setCell q v = (X.setCell q v).drewN n := fun _ _ _ => rfl
  have e2 : ∀ (X : World) (o : Obj), (X.drewN n).alloc o = (X.alloc o).drewN n := fun _ _ => rfl
  refine ⟨?_, ?_, ?_, ?_, ?_, ?_, ?_, ?_, hk, rb.kept hk, ra.kept hk, kb, ka, ln2, le, hz⟩
  all_goals simp [swapW, e1, e2, go_sem]

theorem plusW_sub (w : World) (z : Int) (m1 m2 : Bool) (ao bo : Option Addr) (n1 c1 n2 c2 n : Nat) (da db : List Nat) (ra : Row w ao n1 c1 da) (rb : Row w bo n2 c2 db) (ka : Dg.Canon da) (kb : Dg.Canon db) (ln1 : n1 ≤ 1000) (le : Dg.val db ≤ Dg.val da)
    (hz : z = if m1 then -((Dg.val da - Dg.val db : Nat) : Int) else ((Dg.val da - Dg.val db : Nat) : Int)) : SubW w z m1 ao n1 c1 da bo n2 c2 db ((plusW w m1 m2 ao bo n1 c1 n2 c2).drewN n) := by
  have hk := (plusW_kept w m1 m2 ao bo n1 c1 n2 c2).drewN n
  refine ⟨?_, ?_, ?_, ?_, ?_, ?_, ?_, ?_, hk, ra.kept hk, rb.kept hk, ka, kb, ln1, le, hz⟩
  all_goals simp [plusW, go_sem]

theorem diff_val {m1 m2 : Bool} (hm : (m1 == m2) = false) (a b : Nat) (z : Int) (hz : z = (if m1 then -(a : Int) else (a : Int)) + (if m2 then -(b : Int) else (b : Int))) :
    (b ≤ a → z = if m1 then -((a - b : Nat) : Int) else ((a - b : Nat) : Int)) ∧ (a ≤ b → z = if m2 then -((b - a : Nat) : Int) else ((b - a : Nat) : Int)) := by
  cases m1 <;> cases m2 <;> simp at hm hz ⊢ <;> omega

set_option maxRecDepth 100000 in
set_option maxHeartbeats 1000000 in
theorem plus_diff (m1 m2 : Bool) (hm : (m1 == m2) = false) (ao bo : Option Addr) (n1 c1 n2 c2 : Nat) (da db : List Nat) (w : World) (ra : Row w ao n1 c1 da) (rb : Row w bo n2 c2 db) (ka : Dg.Canon da) (kb : Dg.Canon db) (ln1 : n1 ≤ 1000) (ln2 : n2 ≤ 1000)
    (z : Int) (hz : Hid (z = (if m1 then -(Dg.val da : Int) else (Dg.val da : Int)) + (if m2 then -(Dg.val db : Int) else (Dg.val db : Int)))) :
    Calls Try.prog 13 #[.agg #[.bool m1, .slice ao n1 c1], .agg #[.bool m2, .slice bo n2 c2]] w fun e w' => ∃ v, e = .returned v ∧ BigAt w' v z ∧ Kept w w' := by
  obtain ⟨i0, hi, hz0, hz1, hz2⟩ := info_parts Try.infoU
  have hK := plusW_kept w m1 m2 ao bo n1 c1 n2 c2
  go_enter Try.func13, Try.ntmps13
  go_upto_if 64 with (go_at_call 37; refine (above_calls _ _ _ _ _ _ da db _ (ra.kept hK) (rb.kept hK) ka kb).mono ?_; rintro e w' ⟨rfl, n, rfl⟩)
  go_cut [9] (fun _ wc => ∃ mA aA nA cA dA aB nB cB dB, SubW w z mA aA nA cA dA aB nB cB dB wc)
  case first =>
    by_cases hlt : Dg.val da < Dg.val db
    · rw [Dg.cmp_lt (by omega)]
      unfold plusW
      go_wp2
      go_meet
      case rel => exact ⟨_, _, _, _, _, _, _, _, _, swapW_sub w z m1 m2 ao bo n1 c1 n2 c2 n da db ra rb ka kb ln2 (by omega) ((diff_val hm _ _ z hz.out).2 (by omega))⟩
    · have hcm : Dg.cmp (Dg.val da) (Dg.val db) = 0 ∨ Dg.cmp (Dg.val da) (Dg.val db) = 1 := by
        by_cases he : Dg.val da = Dg.val db
        · exact .inl (Dg.cmp_eq (by omega))
        · exact .inr (Dg.cmp_gt (by omega))
      rcases hcm with hcm | hcm
      all_goals
        rw [hcm]
        go_wp2
        go_meet
        case rel => exact ⟨_, _, _, _, _, _, _, _, _, plusW_sub w z m1 m2 ao bo n1 c1 n2 c2 n da db ra rb ka kb ln1 (by omega) ((diff_val hm _ _ z hz.out).1 (by omega))⟩
  case rest =>
    obtain ⟨mA, aA, nA, cA, dA, aB, nB, cB, dB, S⟩ := hcut
    have la1 : nA ≤ dA.length := Nat.le_of_eq S.ra.len
    have la2 : dA.length ≤ nA := Nat.le_of_eq S.ra.len.symm
    have hla := S.la
    have oka := S.ka.1
    have okb := S.kb.1
    go_wp2
    go_loopw [5, 10, 11] (fun d c i wr => ∃ k cc ds, SubRel wc dA dB k cc ds d wr ∧ i = .int .i64 (k : Nat) ∧ c = .int .u64 (cc : Nat)) (fun _ _ i _ => nA - (intOf i).toNat)
    case atStart => exact ⟨0, 0, [], ⟨by omega, by omega, rfl, Dg.ok_nil, by simp [Dg.val], World.ownsRow_nil _ _ _ _, Kept.refl _⟩, rfl, rfl⟩
    case round =>
      obtain ⟨k, cc, ds, R, rfl, rfl⟩ := hrel
      have q1 := R.kept.cell S.q1
      have q2 := R.kept.cell S.q2
      have q4 := R.kept.cell S.q4
      have q5 := R.kept.cell S.q5
      have q6 := R.kept.cell S.q6
      have q9 := S.q9
      have q7 : wr.frozen? ⟨w.heap.size + 1 + 1, 0, none⟩ = false := (Below.frozen R.kept (by show w.heap.size + 1 + 1 < _; omega)).trans S.q7
      have q8 : wr.frozen? ⟨w.heap.size + 1 + 1, 1, none⟩ = false := (Below.frozen R.kept (by show w.heap.size + 1 + 1 < _; omega)).trans S.q8
      have kN := R.kN
      have kc := R.c1
      have hsz := R.kept.size
      by_cases hgo : (k : Int) < (nA : Int)
      · obtain ⟨x, ex⟩ : ∃ x, x = dA.getD k 0 := ⟨_, rfl⟩
        obtain ⟨y, ey⟩ : ∃ y, y = dB.getD k 0 := ⟨_, rfl⟩
        have ok1 := oka k
        have ok2 := okb k
        rw [← ex] at ok1
        rw [← ey] at ok2
        have EX := hid_of ex
        have EY := hid_of ey
        clear ex ey
        have hmask := mask16s x y cc ok1 ok2 kc
        have ra' := S.ra.kept R.kept
        have rb' := S.rb.kept R.kept
        go_wp2
        go_quiet ((first | (go_at_call_of 35 (Value.slice aA nA cA); exact at_quietN _ _ _ _ _ _ _ _ ra' EX.out) | (go_at_call_of 35 (Value.slice aB nB cB); exact at_quietN _ _ _ _ _ _ _ _ rb' EY.out)))
        go_wp2_with (at_builtin; refine wpList_append_own _ rfl _ _ 23 rfl wc.heap.size 38 i0 (.int .u64 0) 1 8 Try.underlying23 hi hz0 hz1 hz2 rfl (by decide) _ _ _ rfl ((owns_drewN R.own _).alloc _) ⟨wr.heap.size, 0, none⟩ 1 1 [.int .u64 (((x : Int) + 65536 - (y : Int) - (cc : Int)) % 65536)] rfl rfl (cell_one_new _ _ _) (by intro u hu; simp at hu; subst hu; rfl) (by unfold maxLen; omega) (by omega) (by simp; omega) ?_)
        intro v' w1 hown hgrow _
        go_wp2_with fail
        go_roundw
        case rel =>
          have hst := R.step oka okb (by omega) (v' := v') (w1 := w1) (by rw [← EX.out, ← EY.out, show (((x + 65536 - y - cc) % 65536 : Nat) : Int) = ((x : Int) + 65536 - (y : Int) - (cc : Int)) % 65536 from by omega]; exact hown) ⟨_, ⟨hgrow.os, hgrow.tape, hgrow.output, hgrow.size, hgrow.block⟩⟩
          rw [← EX.out, ← EY.out] at hst
          exact ⟨k + 1, 1 - (x + 65536 - y - cc) / 65536, _, hst, by go_num, by go_num⟩
        case measure => simp [intOf]; omega
      · have hval := R.done S.ka S.kb (by omega) S.le
        obtain ⟨so, cap, rfl⟩ := owns_slice R.own
        have hrow := Row.of_owns (ds := ds) (by rw [R.len]; exact R.own) R.len.symm
        have HV := hid_of hval
        clear hval
        go_wp2_with fail
        refine (trim_calls _ _ _ _ _ hrow R.ok).mono ?_
        rintro e w' ⟨⟨j, rfl, hj, hc, hv⟩, rfl⟩
        have HC := hid_of hv
        clear hv
        have K3 : ∀ u1 u2, Kept w ((wr.setCell ⟨w.heap.size + 1 + 1, 0, none⟩ u1).setCell ⟨w.heap.size + 1 + 1, 1, none⟩ u2) := fun u1 u2 =>
          ((S.kept.trans R.kept).setCell (by show w.heap.size ≤ w.heap.size + 1 + 1; omega) _).setCell (by show w.heap.size ≤ w.heap.size + 1 + 1; omega) _
        have hlj : (ds.take j).length = j := by rw [List.length_take, Nat.min_eq_left (by have := R.len; omega)]
        have HL := hid_of hlj
        clear hlj
        have hmm : mA = false ∨ (mA = true ∧ ¬ ((0 : Int) < (j : Int))) ∨ (mA = true ∧ (0 : Int) < (j : Int)) := by
          cases mA
          · exact .inl rfl
          · by_cases h : (0 : Int) < (j : Int)
            · exact .inr (.inr ⟨rfl, h⟩)
            · exact .inr (.inl ⟨rfl, h⟩)
        have HZ := hid_of S.hz
        rcases hmm with rfl | ⟨rfl, hp⟩ | ⟨rfl, hp⟩
        · have hbig : BigAt wr (.agg #[.bool false, .slice so j cap]) z := BigAt.mk' (hrow.take j hj) hc (fun e => by simp at e) (by rw [HC.out, HV.out, HZ.out])
          obtain ⟨r1, r2, r3, r4⟩ := box2w q5 q6 (.bool false) (.slice so j cap)
          go_wp2
          refine bodyPost_ret (v := .agg #[.bool false, .slice so j cap]) (by simp [results, Try.results13, go_sem, r3, r4]) rfl ⟨_, rfl, hbig.box2w q5 q6 _ _, K3 _ _⟩
        · have hbig : BigAt wr (.agg #[.bool false, .slice so j cap]) z := BigAt.mk' (hrow.take j hj) hc (fun e => by simp at e) (by
            have e0 : ds.take j = [] := List.length_eq_zero_iff.1 (by rw [HL.out]; omega)
            have e1 := HC.out
            rw [HV.out] at e1
            rw [HZ.out, ← e1, e0]; simp [Dg.val])
          have hd : decide (0 < j) = false := by simp; omega
          obtain ⟨r1, r2, r3, r4⟩ := box2w q5 q6 (.bool false) (.slice so j cap)
          go_wp2
          refine bodyPost_ret (v := .agg #[.bool false, .slice so j cap]) (by simp [results, Try.results13, go_sem, r3, r4]) rfl ⟨_, rfl, hbig.box2w q5 q6 _ _, K3 _ _⟩
        · have hbig : BigAt wr (.agg #[.bool true, .slice so j cap]) z := BigAt.mk' (hrow.take j hj) hc (fun _ e => by have := HL.out; rw [e] at this; simp at this; omega) (by rw [HC.out, HV.out, HZ.out])
          have hd : decide (0 < j) = true := by simp; omega
          obtain ⟨r1, r2, r3, r4⟩ := box2w q5 q6 (.bool true) (.slice so j cap)
          go_wp2
          refine bodyPost_ret (v := .agg #[.bool true, .slice so j cap]) (by simp [results, Try.results13, go_sem, r3, r4]) rfl ⟨_, rfl, hbig.box2w q5 q6 _ _, K3 _ _⟩

/-- How great a number may be. -/
def LIM : Nat := 65536 ^ 20
theorem len_lim {ds : List Nat} (h : Dg.Canon ds) (hv : Dg.val ds < LIM) : ds.length ≤ 20 := Dg.canon_len h hv

theorem plus_calls (v1 v2 : Value) (z1 z2 : Int) (w : World) (h1 : BigAt w v1 z1) (h2 : BigAt w v2 z2) (l1 : z1.natAbs < LIM) (l2 : z2.natAbs < LIM) :
    Calls Try.prog 13 #[v1, v2] w fun e w' => ∃ v, e = .returned v ∧ BigAt w' v (z1 + z2) ∧ Kept w w' := by
  obtain ⟨m1, ao, n1, c1, da, rfl, ra, ka, sa, ea⟩ := h1.ex
  obtain ⟨m2, bo, n2, c2, db, rfl, rb, kb, sb, eb⟩ := h2.ex
  have e1 : Dg.val da < LIM := by cases m1 <;> simp at ea <;> omega
  have e2 : Dg.val db < LIM := by cases m2 <;> simp at eb <;> omega
  have e3 := len_lim ka e1
  have e4 := len_lim kb e2
  have e5 := ra.len
  have e6 := rb.len
  by_cases hm : (m1 == m2) = true
  · have hm' : m1 = m2 := by simpa using hm
    subst hm'
    exact plus_same m1 ao bo n1 c1 n2 c2 da db w ra rb ka kb (by omega) (by omega) sa (z1 + z2) (by show _ = _; rw [ea, eb]; cases m1 <;> simp <;> omega)
  · exact plus_diff m1 m2 (by simpa using hm) ao bo n1 c1 n2 c2 da db w ra rb ka kb (by omega) (by omega) (z1 + z2) (by show _ = _; rw [ea, eb])
end Go.Proofs.Ytalofkabkcpicaa
