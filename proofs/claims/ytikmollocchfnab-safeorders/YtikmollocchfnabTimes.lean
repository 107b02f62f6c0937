/- The document's product of numbers of any length. -/
import Derived.Test.YtikmollocchfnabPlusB
namespace Go.Proofs.Ytikmollocchfnab
open Go.RowKit

/-- What the outer round of the product keeps. -/
structure OutRel (w W : World) (G : Nat) (da db : List Nat) (L k : Nat) (ds : List Nat) (wr : World) : Prop where
  kN : k ≤ da.length
  len : ds.length = L
  ok : Dg.Ok ds
  val : Dg.val ds = Dg.val (da.take k) * Dg.val db
  own : wr.ownsRow (w.heap.size + 3) 32 1 (.slice (some ⟨G, 0, none⟩) L L) L (vals ds)
  kept : Kept W wr

/-- What the inner round of the product keeps. -/
structure InRel (w W : World) (G : Nat) (da db : List Nat) (L k j cc : Nat) (ds : List Nat) (wr : World) : Prop where
  c1 : cc < 65536
  len : ds.length = L
  ok : Dg.Ok ds
  val : Dg.val ds + 65536 ^ (k + j) * cc = Dg.val (da.take k) * Dg.val db + 65536 ^ k * (da.getD k 0 * Dg.val (db.take j))
  own : wr.ownsRow (w.heap.size + 3) 32 1 (.slice (some ⟨G, 0, none⟩) L L) L (vals ds)
  kept : Kept W wr

theorem InRel.inside {w W wr : World} {G : Nat} {da db : List Nat} {L k j cc : Nat} {ds : List Nat} (h : InRel w W G da db L k j cc ds wr) (ka : Dg.Ok da) (kb : Dg.Ok db) (hgo : j < db.length ∨ 0 < cc) : j ≤ db.length := by
  rcases hgo with h0 | h0
  · omega
  · apply Nat.le_of_not_lt
    intro hj
    have hv := h.val
    rw [Dg.val_take_all db j (by omega), ← Nat.mul_assoc, ← Nat.add_mul, ← Dg.val_take_step] at hv
    have h1 := Dg.val_take_lt ka (k + 1)
    have h2 := Dg.val_lt kb
    have h3 : Dg.val (da.take (k + 1)) * Dg.val db < 65536 ^ (k + 1) * 65536 ^ db.length := Nat.mul_lt_mul_of_lt_of_le h1 (Nat.le_of_lt h2) (Nat.pow_pos (by decide))
    have h4 : 65536 ^ (k + 1) * 65536 ^ db.length = 65536 ^ (k + 1 + db.length) := (Nat.pow_add _ _ _).symm
    have h5 : 65536 ^ (k + 1 + db.length) ≤ 65536 ^ (k + j) := Nat.pow_le_pow_right (by decide) (by omega)
    have h6 : 65536 ^ (k + j) * 1 ≤ 65536 ^ (k + j) * cc := Nat.mul_le_mul_left _ h0
    omega

theorem InRel.step {w W wr : World} {G : Nat} {da db : List Nat} {L k j cc : Nat} {ds : List Nat} (h : InRel w W G da db L k j cc ds wr) (ka : Dg.Ok da) (kb : Dg.Ok db) (hL : k + j < L) (hW : W.heap.size = w.heap.size + 3) :
    InRel w W G da db L k (j + 1) ((ds.getD (k + j) 0 + cc + da.getD k 0 * db.getD j 0) / 65536) (ds.set (k + j) ((ds.getD (k + j) 0 + cc + da.getD k 0 * db.getD j 0) % 65536))
      (wr.setCell ⟨G, k + j, none⟩ (.int .u64 (((ds.getD (k + j) 0 + cc + da.getD k 0 * db.getD j 0) % 65536 : Nat) : Int))) := by
  have h1 := h.ok (k + j)
  have h2 := ka k
  have h3 := kb j
  have h4 := h.c1
  have h5 : da.getD k 0 * db.getD j 0 ≤ 65535 * 65535 := Nat.mul_le_mul (by omega) (by omega)
  obtain ⟨o1, g1⟩ := h.own.stored (k + j) (.int .u64 (((ds.getD (k + j) 0 + cc + da.getD k 0 * db.getD j 0) % 65536 : Nat) : Int))
  refine ⟨by omega, by simp [h.len], Dg.ok_set h.ok _ _ (by omega), ?_, by rw [vals_set] at o1; exact o1, ?_⟩
  · have e1 := Dg.val_set ds (k + j) ((ds.getD (k + j) 0 + cc + da.getD k 0 * db.getD j 0) % 65536) (by rw [h.len]; exact hL)
    have e2 := Dg.val_set ds (k + j) 0 (by rw [h.len]; exact hL)
    have e3 := Dg.times_step (65536 ^ (k + j)) (Dg.val (ds.set (k + j) 0)) (Dg.val (da.take k) * Dg.val db + 65536 ^ k * (da.getD k 0 * Dg.val (db.take j))) cc (ds.getD (k + j) 0) (da.getD k 0 * db.getD j 0) (by have := h.val; omega)
    rw [Dg.val_take_step db j, Nat.mul_add (da.getD k 0), Nat.mul_add (65536 ^ k)]
    have e4 : 65536 ^ k * (da.getD k 0 * (65536 ^ j * db.getD j 0)) = 65536 ^ (k + j) * (da.getD k 0 * db.getD j 0) := by
      rw [Nat.pow_add]
      simp only [Nat.mul_comm, Nat.mul_left_comm, Nat.mul_assoc]
    rw [e4, show k + (j + 1) = k + j + 1 from by omega, Nat.pow_succ]
    omega
  · have hk := h.kept
    exact Below.grown hk g1 hk.size fun b hb => by
      rw [hW]
      simp only [Option.some.injEq] at hb
      rw [← hb]
      exact (h.own.lt G rfl).1

theorem InRel.drewN {w W wr : World} {G : Nat} {da db : List Nat} {L k j cc : Nat} {ds : List Nat} (h : InRel w W G da db L k j cc ds wr) (q : Nat) : InRel w W G da db L k j cc ds (wr.drewN q) :=
  ⟨h.c1, h.len, h.ok, h.val, h.own, h.kept.drewN q⟩

theorem InRel.start {w W wr : World} {G : Nat} {da db : List Nat} {L k : Nat} {ds : List Nat} (h : OutRel w W G da db L k ds wr) : InRel w W G da db L k 0 0 ds wr :=
  ⟨by omega, h.len, h.ok, by rw [h.val]; simp [Dg.val], h.own, h.kept⟩

theorem InRel.done {w W wr : World} {G : Nat} {da db : List Nat} {L k j cc : Nat} {ds : List Nat} (h : InRel w W G da db L k j cc ds wr) (hk : k < da.length) (hj : db.length ≤ j) (hc : cc = 0) : OutRel w W G da db L (k + 1) ds wr := by
  refine ⟨by omega, h.len, h.ok, ?_, h.own, h.kept⟩
  have hv := h.val
  rw [Dg.val_take_all db j hj, hc, ← Nat.mul_assoc, ← Nat.add_mul, ← Dg.val_take_step] at hv
  simpa using hv

theorem made_vals (n : Nat) : (madeCells #[Value.int .u64 0] n).toList = vals (List.replicate n 0) := by
  rw [toList_madeCells_one]
  simp [vals]

theorem OutRel.first {w W wr : World} {G : Nat} {da db : List Nat} {L : Nat} (own : wr.ownsRow (w.heap.size + 3) 32 1 (.slice (some ⟨G, 0, none⟩) L L) L (madeCells #[Value.int .u64 0] L).toList) (kept : Kept W wr) : OutRel w W G da db L 0 (List.replicate L 0) wr :=
  ⟨by omega, by simp, Dg.ok_zeros _, by rw [Dg.val_zeros]; simp [Dg.val], by rw [← made_vals]; exact own, kept⟩

theorem mask16p (d c x y : Nat) (hd : d < 65536) (hc : c < 65536) (hx : x < 65536) (hy : y < 65536) :
    0 ≤ (x : Int) * (y : Int) ∧ (x : Int) * (y : Int) ≤ 4294836225 ∧ bits .and .u64 ((d : Int) + (c : Int) + (x : Int) * (y : Int)) 65535 = ((d : Int) + (c : Int) + (x : Int) * (y : Int)) % 65536 := by
  have h5 : x * y ≤ 65535 * 65535 := Nat.mul_le_mul (by omega) (by omega)
  have e : ((x * y : Nat) : Int) = (x : Int) * (y : Int) := Int.natCast_mul x y
  have := mask16 (d + c + x * y) (by omega)
  rw [show ((d + c + x * y : Nat) : Int) = (d : Int) + (c : Int) + (x : Int) * (y : Int) from by omega] at this
  refine ⟨by omega, by omega, ?_⟩
  rw [this]
  omega

set_option maxRecDepth 100000 in
set_option maxHeartbeats 2000000 in
theorem times_raw (m1 m2 : Bool) (ao bo : Option Addr) (n1 c1 n2 c2 : Nat) (da db : List Nat) (w : World) (ra : Row w ao n1 c1 da) (rb : Row w bo n2 c2 db) (ka : Dg.Canon da) (kb : Dg.Canon db) (ln1 : n1 ≤ 1000) (ln2 : n2 ≤ 1000)
    (z : Int) (hz : Hid (z = if (!(m1 == m2)) then -((Dg.val da * Dg.val db : Nat) : Int) else ((Dg.val da * Dg.val db : Nat) : Int))) :
    Calls Try.prog 17 #[.agg #[.bool m1, .slice ao n1 c1], .agg #[.bool m2, .slice bo n2 c2]] w fun e w' => ∃ v, e = .returned v ∧ BigAt w' v z ∧ Kept w w' := by
  have la1 : n1 ≤ da.length := Nat.le_of_eq ra.len
  have la2 : da.length ≤ n1 := Nat.le_of_eq ra.len.symm
  have lb1 : n2 ≤ db.length := Nat.le_of_eq rb.len
  have lb2 : db.length ≤ n2 := Nat.le_of_eq rb.len.symm
  obtain ⟨i0, hi, hz0, hz1, hz2⟩ := info_parts Try.infoU
  have hK := plusW_kept w m1 m2 ao bo n1 c1 n2 c2
  have hS := plusW_size w m1 m2 ao bo n1 c1 n2 c2
  have HS := hid_of hS
  clear hS
  go_enter Try.func17, Try.ntmps17
  go_wp2_with (at_make; refine wpList_make_full _ rfl _ _ 33 rfl (w.heap.size + 3) 32 i0 (.int .u64 0) 1 Try.underlying33 hi hz0 hz1 .i64 .i64 _ _ (n1 + n2 + 1) rfl rfl (by omega) (by omega) (by rw [hz2]; omega) (by unfold maxLen; omega) (by simp) ?_)
  intro W1 hown hgrow
  have hk1 : Kept (plusW w m1 m2 ao bo n1 c1 n2 c2) W1 := Below.grown (Kept.refl _) hgrow (Nat.le_refl _) (fun k e => by simp at e)
  have hO := OutRel.first (da := da) (db := db) hown hk1
  clear hown hgrow hk1
  go_wp2_with fail
  go_loopw [6] (fun i wr => ∃ k ds, OutRel w (plusW w m1 m2 ao bo n1 c1 n2 c2) (w.heap.size + 1 + 1 + 1) da db (n1 + n2 + 1) k ds wr ∧ i = .int .i64 (k : Nat)) (fun i _ => n1 - (intOf i).toNat)
  case atStart => exact ⟨0, _, hO, rfl⟩
  case round =>
    obtain ⟨k, ds0, O, rfl⟩ := hrel
    obtain ⟨wo, rfl⟩ : ∃ wo : World, wo = wr := ⟨_, rfl⟩
    obtain ⟨q1, q2, q3, q4, q5, q6, q7, q8, q9⟩ := plusW_cells O.kept
    have kN := O.kN
    by_cases hgo : (k : Int) < (n1 : Int)
    · obtain ⟨b1, o1, rfl, g1⟩ := ra.cell (by omega)
      have hI := InRel.start O
      have okx := ka.1 k
      obtain ⟨x, ex⟩ : ∃ x, x = da.getD k 0 := ⟨_, rfl⟩
      rw [← ex] at okx
      have EX := hid_of ex
      clear ex
      go_wp2_with fail
      go_loopw [7, 8] (fun c j wr => ∃ jj cc ds, InRel w (plusW w m1 m2 (some ⟨b1, o1, none⟩) bo n1 c1 n2 c2) (w.heap.size + 1 + 1 + 1) da db (n1 + n2 + 1) k jj cc ds wr ∧ jj ≤ n2 + 1 ∧ j = .int .i64 (jj : Nat) ∧ c = .int .u64 (cc : Nat)) (fun _ j _ => n2 + 1 - (intOf j).toNat)
      case atStart => exact ⟨0, 0, _, hI, by omega, rfl, rfl⟩
      case round =>
        obtain ⟨j, cc, ds, I, hj, rfl, rfl⟩ := hrel
        obtain ⟨q1, q2, q3, q4, q5, q6, q7, q8, q9⟩ := plusW_cells I.kept
        have kc := I.c1
        by_cases hgo2 : j < n2 ∨ 0 < cc
        · have hjn : j ≤ n2 := by have := I.inside ka.1 kb.1 (by omega); omega
          have oky := kb.1 j
          have okd := I.ok (k + j)
          have hst := I.step ka.1 kb.1 (by omega) HS.out
          rw [← EX.out] at hst
          obtain ⟨y, ey⟩ : ∃ y, y = db.getD j 0 := ⟨_, rfl⟩
          obtain ⟨d, ed⟩ : ∃ d, d = ds.getD (k + j) 0 := ⟨_, rfl⟩
          have hcd : wr.cell? ⟨w.heap.size + 1 + 1 + 1, k + j, none⟩ = some (.int .u64 (d : Int)) := by
            rw [I.own.cellAt (k + j) (by omega), vals_get ds (k + j) (by rw [I.len]; omega), ed]
          have hfd : wr.frozen? ⟨w.heap.size + 1 + 1 + 1, k + j, none⟩ = false := I.own.frozenAt _
          have hcx : wr.cell? ⟨b1, o1 + k, none⟩ = some (.int .u64 (x : Int)) := by rw [EX.out]; exact (hK.trans I.kept).cell (g1 k (by omega))
          rw [← ey] at oky hst
          rw [← ed] at okd hst
          have EY := hid_of ey
          clear ey ed
          obtain ⟨p1, p2, hmask⟩ := mask16p d cc x y okd kc okx oky
          have rb' := (rb.kept hK).kept I.kept
          have HST := hid_of hst
          clear hst
          have i1 : (0 : Int) ≤ (k : Int) + (j : Int) := by omega
          have i2 : (k : Int) + (j : Int) < ((n1 + n2 + 1 : Nat) : Int) := by omega
          have hgo3 : ((j : Int) < (n2 : Int)) ∨ (¬ ((j : Int) < (n2 : Int)) ∧ (0 : Int) < (cc : Int)) := by omega
          clear hgo2
          rcases hgo3 with h1 | ⟨h1, h2⟩
          all_goals
            go_wp2
            go_quiet ((go_at_call 26; exact at_quietN _ _ _ _ _ _ _ _ rb' EY.out))
            go_wp2
            go_roundw
            case rel =>
              have e1 : (((d + cc + x * y) % 65536 : Nat) : Int) = ((d : Int) + (cc : Int) + (x : Int) * (y : Int)) % 65536 := by have := Int.natCast_mul x y; omega
              have e2 : (((d + cc + x * y) / 65536 : Nat) : Int) = ((d : Int) + (cc : Int) + (x : Int) * (y : Int)) / 65536 := by have := Int.natCast_mul x y; omega
              have hst := HST.out
              rw [e1] at hst
              exact ⟨j + 1, (d + cc + x * y) / 65536, _, hst.drewN nq, by omega, by go_num, by rw [e2]⟩
            case measure => simp [intOf]; omega
        · have g1 : ¬ ((j : Int) < (n2 : Int)) := by omega
          have g2 : ¬ ((0 : Int) < (cc : Int)) := by omega
          have hO' := I.done (by omega) (by omega) (by omega)
          clear hgo2
          go_wp2
          go_roundw
          case rel => exact ⟨k + 1, _, hO', by go_num⟩
          case measure => simp [intOf]; omega
    · have hval := O.val
      rw [Dg.val_take_all da k (by omega)] at hval
      have hrow := Row.of_owns (ds := ds0) (by rw [O.len]; exact O.own) O.len.symm
      have HV := hid_of hval
      clear hval
      go_wp2_with fail
      refine (trim_calls _ _ _ _ _ hrow O.ok).mono ?_
      rintro e w' ⟨⟨j, rfl, hj, hc, hv⟩, rfl⟩
      have HC := hid_of hv
      clear hv
      have K3 : ∀ u1 u2, Kept w ((wo.setCell ⟨w.heap.size + 1 + 1, 0, none⟩ u1).setCell ⟨w.heap.size + 1 + 1, 1, none⟩ u2) := fun u1 u2 =>
        ((hK.trans O.kept).setCell (by show w.heap.size ≤ w.heap.size + 1 + 1; omega) _).setCell (by show w.heap.size ≤ w.heap.size + 1 + 1; omega) _
      have hlj : (ds0.take j).length = j := by rw [List.length_take, Nat.min_eq_left (by have := O.len; omega)]
      have HL := hid_of hlj
      clear hlj
      have hmm : (m1 == m2) = true ∨ ((m1 == m2) = false ∧ decide (0 < j) = false) ∨ ((m1 == m2) = false ∧ decide (0 < j) = true) := by
        cases (m1 == m2)
        · by_cases h : 0 < j
          · exact .inr (.inr ⟨rfl, by simp [h]⟩)
          · exact .inr (.inl ⟨rfl, by simp; omega⟩)
        · exact .inl rfl
      rcases hmm with hp | ⟨hp, hd⟩ | ⟨hp, hd⟩
      · have hbig : BigAt wo (.agg #[.bool false, .slice (some ⟨w.heap.size + 1 + 1 + 1, 0, none⟩) j (n1 + n2 + 1)]) z := BigAt.mk' (hrow.take j hj) hc (fun e => by simp at e) (by rw [hz.out, HC.out, HV.out, hp]; rfl)
        obtain ⟨r1, r2, r3, r4⟩ := box2w q5 q6 (.bool false) (.slice (some ⟨w.heap.size + 1 + 1 + 1, 0, none⟩) j (n1 + n2 + 1))
        go_wp2
        refine bodyPost_ret (v := .agg #[.bool false, .slice (some ⟨w.heap.size + 1 + 1 + 1, 0, none⟩) j (n1 + n2 + 1)]) (by simp [results, Try.results17, go_sem, r3, r4]) rfl ⟨_, rfl, hbig.box2w q5 q6 _ _, K3 _ _⟩
      · have hbig : BigAt wo (.agg #[.bool false, .slice (some ⟨w.heap.size + 1 + 1 + 1, 0, none⟩) j (n1 + n2 + 1)]) z := BigAt.mk' (hrow.take j hj) hc (fun e => by simp at e) (by
          have e0 : ds0.take j = [] := List.length_eq_zero_iff.1 (by rw [HL.out]; simp at hd; omega)
          have e1 := HC.out
          rw [HV.out] at e1
          rw [hz.out, ← e1, e0]; simp [Dg.val])
        obtain ⟨r1, r2, r3, r4⟩ := box2w q5 q6 (.bool false) (.slice (some ⟨w.heap.size + 1 + 1 + 1, 0, none⟩) j (n1 + n2 + 1))
        go_wp2
        refine bodyPost_ret (v := .agg #[.bool false, .slice (some ⟨w.heap.size + 1 + 1 + 1, 0, none⟩) j (n1 + n2 + 1)]) (by simp [results, Try.results17, go_sem, r3, r4]) rfl ⟨_, rfl, hbig.box2w q5 q6 _ _, K3 _ _⟩
      · have hbig : BigAt wo (.agg #[.bool true, .slice (some ⟨w.heap.size + 1 + 1 + 1, 0, none⟩) j (n1 + n2 + 1)]) z := BigAt.mk' (hrow.take j hj) hc (fun _ e => by have := HL.out; rw [e] at this; simp at this hd; omega) (by rw [hz.out, HC.out, HV.out, hp]; rfl)
        obtain ⟨r1, r2, r3, r4⟩ := box2w q5 q6 (.bool true) (.slice (some ⟨w.heap.size + 1 + 1 + 1, 0, none⟩) j (n1 + n2 + 1))
        go_wp2
        refine bodyPost_ret (v := .agg #[.bool true, .slice (some ⟨w.heap.size + 1 + 1 + 1, 0, none⟩) j (n1 + n2 + 1)]) (by simp [results, Try.results17, go_sem, r3, r4]) rfl ⟨_, rfl, hbig.box2w q5 q6 _ _, K3 _ _⟩

theorem times_calls (v1 v2 : Value) (z1 z2 : Int) (w : World) (h1 : BigAt w v1 z1) (h2 : BigAt w v2 z2) (l1 : z1.natAbs < LIM) (l2 : z2.natAbs < LIM) :
    Calls Try.prog 17 #[v1, v2] w fun e w' => ∃ v, e = .returned v ∧ BigAt w' v (z1 * z2) ∧ Kept w w' := by
  obtain ⟨m1, ao, n1, c1, da, rfl, ra, ka, sa, ea⟩ := h1.ex
  obtain ⟨m2, bo, n2, c2, db, rfl, rb, kb, sb, eb⟩ := h2.ex
  have e1 : Dg.val da < LIM := by cases m1 <;> simp at ea <;> omega
  have e2 : Dg.val db < LIM := by cases m2 <;> simp at eb <;> omega
  have e3 := len_lim ka e1
  have e4 := len_lim kb e2
  have e5 := ra.len
  have e6 := rb.len
  exact times_raw m1 m2 ao bo n1 c1 n2 c2 da db w ra rb ka kb (by omega) (by omega) (z1 * z2) (by show _ = _; rw [ea, eb]; cases m1 <;> cases m2 <;> simp [Int.mul_neg, Int.neg_mul])
end Go.Proofs.Ytikmollocchfnab
