/- The document's Circle. -/
import Derived.Test.YtomopfjaebcpeaaRfL
namespace Go.Proofs.Ytomopfjaebcpeaa
open Go.RowKit

/-- At which nodes one of the first k edges ends. -/
def endTo (es : List Ed) (c : List Int) (k : Nat) (v : Nat) : Bool := (List.range k).any fun j => tto es c j == (v : Int)
theorem endTo_iff {es : List Ed} {c : List Int} {k v : Nat} : endTo es c k v = true ↔ ∃ j, j < k ∧ tto es c j = (v : Int) := by
  simp [endTo, List.any_eq_true]
theorem endTo_succ (es : List Ed) (c : List Int) (k v : Nat) : endTo es c (k + 1) v = if (v : Int) = tto es c k then true else endTo es c k v := by
  unfold endTo
  rw [List.range_succ, List.any_append]
  by_cases e : (v : Int) = tto es c k
  · simp [e]
  · have : ¬ tto es c k = (v : Int) := fun t => e t.symm
    simp [e, this]

/-- What the k-th edge of a circle must be. -/
structure StepOk (es : List Ed) (n : Nat) (c : List Int) (L k : Nat) : Prop where
  rng : 0 ≤ zAt c k ∧ zAt c k < (n : Int)
  nx : 0 ≤ zAt c ((k + 1) % L) ∧ zAt c ((k + 1) % L) < (n : Int)
  link : tto es c k = frm es c ((k + 1) % L)
  sole : ∀ j, j < k → tto es c j ≠ tto es c k
theorem CircDoc.stepOk {es : List Ed} {n : Nat} {c : List Int} {L : Nat} (h : CircDoc es n c L) (k : Nat) (hk : k < L) : StepOk es n c L k :=
  ⟨h.rng k hk, h.rng _ (Nat.mod_lt _ h.pos), h.link k hk, h.sole k hk⟩

set_option maxRecDepth 100000 in
set_option linter.unusedSimpArgs false in
set_option maxHeartbeats 8000000 in
theorem circleR_calls (N : Nat) (ao : Option Addr) (n cap : Nat) (es : List Ed) (co : Option Addr) (L cc : Nat) (c : List Int) (w : World) (h : ERow w ao n cap es) (J : JRow w co L cc c) (RG : Right N n es) (z : Bool) (hY : Hid (CircDoc es n c L → z = true)) (hZ : Hid (¬ CircDoc es n c L → z = false)) :
    Calls Try.prog 36 #[.agg #[.int .i64 (N : Int), .slice ao n cap], .slice co L cc] w fun r w' => r = .returned (.bool z) ∧ Kept w w' := by
  have hn := RG.edges
  have hN := RG.nodes
  have hmkB : ∀ w : World, (Instr.makeSlice 26 (.int .i64 (N : Int)) (.int .i64 (N : Int))).run Try.prog w = .ok (.slice (some ⟨w.heap.size, 0, none⟩) N N) (w.alloc (.cells (madeCells #[.bool false] N) 4)) :=
    fun w => run_make_row' 26 4 (.bool false) 1 Try.underlying26 infoBl0 rfl .i64 .i64 N (by omega) (by omega) w
  have KG : Kept w (w.alloc (Obj.cells #[.int .i64 (N : Int), .slice ao n cap] 24)) := (Kept.refl w).alloc _
  have g0 : (w.alloc (Obj.cells #[.int .i64 (N : Int), .slice ao n cap] 24)).cell? ⟨w.heap.size, 0, none⟩ = some (.int .i64 (N : Int)) := by simp [go_sem]
  have g1 : (w.alloc (Obj.cells #[.int .i64 (N : Int), .slice ao n cap] 24)).cell? ⟨w.heap.size, 1, none⟩ = some (.slice ao n cap) := by simp [go_sem]
  have HE := hid_of (h.kept KG)
  have JE := hid_of (J.kept KG)
  have hr := h.room
  have hmx := h.most
  have hr2 := J.room
  have hmx2 := J.most
  unfold maxLen at hmx hmx2
  have RGH := hid_of RG
  clear h J RG
  by_cases hL0 : L = 0
  · have P := hid_of (hZ.out (fun t => by have := t.pos; omega))
    have q0 : ((L : Int) == 0) = true := by simpa using hL0
    go_enter Try.func36, Try.ntmps36
    go_wp2_with fail
    go_ret
    exact ⟨by rw [P.out]; rfl, KG⟩
  have q0 : ((L : Int) == 0) = false := by simpa using hL0
  by_cases hLn : n < L
  · have P := hid_of (hZ.out (fun t => by have := t.short; omega))
    have q1 : (n : Int) < (L : Int) := by omega
    go_enter Try.func36, Try.ntmps36
    go_wp2_with fail
    go_ret
    exact ⟨by rw [P.out]; rfl, KG⟩
  have q1 : ¬ (n : Int) < (L : Int) := by omega
  go_enter Try.func36, Try.ntmps36
  go_upto_region 3 with fail
  generalize hW0 : w.alloc (Obj.cells #[.int .i64 (N : Int), .slice ao n cap] 24) = wb at KG g0 g1 HE JE ⊢
  clear hW0
  have KB := hid_of KG
  clear KG
  have K3 : Kept wb (wb.alloc (.cells (madeCells #[.bool false] N) 4)) := (Kept.refl wb).alloc _
  have B3H : Hid (BlsAt (wb.alloc (.cells (madeCells #[.bool false] N) 4)) wb.heap.size N (fun v => endTo es c 0 v)) := World.rowIs.congr (World.rowIs_made wb (.bool false) N 4) (fun i _ => by simp [endTo])
  have K3H := hid_of K3
  go_upto_region 4 with fail
  generalize hW3 : wb.alloc (.cells (madeCells #[.bool false] N) 4) = W3 at K3 B3H K3H ⊢
  clear hW3 hmkB K3
  obtain ⟨q, hq⟩ : ∃ q, wb.heap.size = q := ⟨_, rfl⟩
  rw [hq] at B3H ⊢
  have HQ := hid_of hq
  clear hq
  go_wp2_with fail
  go_loopw [6, 7] (fun i _ wr => ∃ k : Nat, k ≤ L ∧ i = .int .i64 (k : Int) ∧ BlsAt wr q N (fun v => endTo es c k v) ∧ Kept wb wr ∧ ∀ j, j < k → StepOk es n c L j) (fun i _ _ => L - (intOf i).toNat)
  case atStart => exact ⟨0, by omega, rfl, B3H.out, K3H.out, fun i hi => by omega⟩
  case round =>
    obtain ⟨k, hk, rfl, BR, K, hno⟩ := hrel
    have HNO := hid_of hno
    clear B3H K3H hno
    have x1 := K.cell g1
    have BRH := hid_of BR
    have KH := hid_of K
    clear BR
    by_cases hgo : (k : Int) < (L : Int)
    · have MISS : Hid (¬ StepOk es n c L k → z = false) := fun hb => hZ.out (fun t => hb (t.stepOk k (by omega)))
      obtain ⟨b2, off2, rfl, hc2⟩ := JE.out.at (by omega)
      obtain ⟨b, off, rfl, hc⟩ := HE.out.cell (by omega)
      have hk2 : (k + 1) % L < L := Nat.mod_lt _ (by omega)
      have ck := K.cell (hc2 k (by omega))
      have cn := K.cell (hc2 ((k + 1) % L) hk2)
      by_cases hx : 0 ≤ zAt c k ∧ zAt c k < (n : Int)
      rotate_left
      · have P := hid_of (MISS.out (fun t => hx t.rng))
        generalize zAt c k = x at ck hx
        clear hc hc2 cn K
        by_cases hx0 : x < 0
        · go_wp2_with fail
          refine Ord.region [(0, 0), (1, 0), (2, 0), (3, 1), (4, 0), (5, 0), (6, 0), (7, 0), (8, 0), (9, 1), (10, 0), (11, 1), (12, 0), (13, 0), (14, 0)] (fun w' => Kept wr w') (by kernel_rfl) (by kernel_rfl) (by kernel_rfl) (by kernel_rfl) (fun _ _ d _ _ h => by cases d <;> exact h) ((Kept.refl _).drewN _) ?_
          repeat
            refine Ord.step rfl (fun Ko hK => ?_)
            simp only [Ord.body]
            go_simp
            first
              | (refine hK _ _ ?_; clear hK Ko)
              | (refine ⟨_, fun w' hS => (by have c0 := hS.cell ck; simp only [c0, Result.andThen]; rfl), hK _ _ ?_⟩; clear hK Ko)
          refine Ord.done ?_
          go_wp2_with fail
          go_ret
          exact ⟨by rw [P.out]; rfl, KB.out.trans (KH.out.trans ((Kept.refl wr).drewN 1))⟩
        · have hx1 : (n : Int) ≤ x := by omega
          go_wp2_with fail
          refine Ord.region [(0, 0), (1, 0), (2, 0), (3, 1), (4, 0), (5, 0), (6, 0), (7, 0), (8, 0), (9, 1), (10, 0), (11, 1), (12, 0), (13, 0), (14, 0)] (fun w' => Kept wr w') (by kernel_rfl) (by kernel_rfl) (by kernel_rfl) (by kernel_rfl) (fun _ _ d _ _ h => by cases d <;> exact h) ((Kept.refl _).drewN _) ?_
          repeat
            refine Ord.step rfl (fun Ko hK => ?_)
            simp only [Ord.body]
            go_simp
            first
              | (refine hK _ _ ?_; clear hK Ko)
              | (refine ⟨_, fun w' hS => (by have c0 := hS.cell ck; have c1 := hS.cell x1; simp only [c0, c1, Result.andThen]; rfl), hK _ _ ?_⟩; clear hK Ko)
          refine Ord.done ?_
          go_wp2_with fail
          go_ret
          exact ⟨by rw [P.out]; rfl, KB.out.trans (KH.out.trans ((Kept.refl wr).drewN 1))⟩
      obtain ⟨x, hxe⟩ : ∃ x : Nat, zAt c k = (x : Int) := ⟨(zAt c k).toNat, by omega⟩
      have HX := hid_of hxe
      have TT : Hid (tto es c k = (edAt es x).t) := by
        show tto es c k = _
        unfold tto
        rw [hxe, Int.toNat_natCast]
      rw [hxe] at ck hx
      have hxn : x < n := by omega
      have hxi : (x : Int) < (n : Int) := by omega
      have ex := K.cell (hc x hxn).2.1
      obtain ⟨-, -, t1, t2⟩ := RGH.out.ends x hxn
      obtain ⟨t, ht⟩ : ∃ t : Nat, (edAt es x).t = (t : Int) := ⟨(edAt es x).t.toNat, by omega⟩
      rw [ht] at ex t1 t2 TT
      have htn : t < N := by omega
      have HC := hid_of hc
      have nx0 : ¬ (x : Int) < 0 := by omega
      have nx1 : ¬ (n : Int) ≤ (x : Int) := by omega
      clear hc hc2 hxe hx ht
      go_wp2_with fail
      refine Ord.region [(0, 0), (1, 0), (2, 0), (3, 1), (4, 0), (5, 0), (6, 0), (7, 0), (8, 0), (9, 1), (10, 0), (11, 1), (12, 0), (13, 0), (14, 0)] (fun w' => Kept wr w') (by kernel_rfl) (by kernel_rfl) (by kernel_rfl) (by kernel_rfl) (fun _ _ d _ _ h => by cases d <;> exact h) ((Kept.refl _).drewN _) ?_
      repeat
        refine Ord.step rfl (fun Ko hK => ?_)
        simp only [Ord.body]
        go_simp
        first
          | (refine hK _ _ ?_; clear hK Ko)
          | (refine ⟨_, fun w' hS => (by have c0 := hS.cell ck; have c1 := hS.cell x1; simp only [c0, c1, Result.andThen]; rfl), hK _ _ ?_⟩; clear hK Ko)
      refine Ord.done ?_
      have KD : Kept wr (wr.drewN 1) := (Kept.refl wr).drewN 1
      replace ck := KD.cell ck
      replace cn := KD.cell cn
      replace ex := KD.cell ex
      replace x1 := KD.cell x1
      have BA := hid_of (BRH.out.kept KD)
      have KA := hid_of (KH.out.trans KD)
      generalize wr.drewN 1 = WA at ck cn ex x1 BA KA ⊢
      clear KD BRH KH K
      obtain ⟨r, hr'⟩ : ∃ r, (k + 1) % L = r := ⟨_, rfl⟩
      have hrem : ((k : Int) + 1).tmod (L : Int) = (r : Int) := by
        rw [Int.tmod_eq_emod_of_nonneg (by omega), ← hr', Int.natCast_emod, Int.natCast_add]
        rfl
      rw [hr'] at cn hk2
      have HR := hid_of hr'
      have hri : (r : Int) < (L : Int) := by omega
      have hLz : ¬ (L : Int) = 0 := by omega
      have hLz' : ((L : Int) == 0) = false := by rw [beq_eq_false_iff_ne]; omega
      clear hr'
      by_cases hy : 0 ≤ zAt c r ∧ zAt c r < (n : Int)
      rotate_left
      · have P := hid_of (MISS.out (fun t => hy (by have := t.nx; rw [HR.out] at this; exact this)))
        generalize zAt c r = y at cn hy
        clear MISS HNO TT HX
        by_cases hy0 : y < 0
        · go_wp2_with fail
          refine Ord.region [(0, 0), (1, 0), (2, 0), (3, 0), (4, 0), (5, 1), (6, 0), (7, 0), (8, 0), (9, 0), (10, 0), (11, 1), (12, 0), (13, 0), (14, 0), (15, 1), (16, 0), (17, 0), (18, 1), (19, 0), (20, 1), (21, 0), (22, 0), (23, 0), (24, 1), (25, 0), (26, 0), (27, 0), (28, 0), (29, 0), (30, 1), (31, 0), (32, 0), (33, 0), (34, 1), (35, 0), (36, 0), (37, 1), (38, 0), (39, 1), (40, 0)] (fun w' => Kept WA w') (by kernel_rfl) (by kernel_rfl) (by kernel_rfl) (by kernel_rfl) (fun _ _ d _ _ h => by cases d <;> exact h) ((Kept.refl _).drewN _) ?_
          repeat
            refine Ord.step rfl (fun Ko hK => ?_)
            simp only [Ord.body]
            go_simp
            first
              | (refine hK _ _ ?_; clear hK Ko)
              | (refine ⟨_, fun w' hS => (by have c0 := hS.cell cn; have c1 := hS.cell x1; simp only [c0, c1, Result.andThen]; rfl), hK _ _ ?_⟩; clear hK Ko)
          refine Ord.done ?_
          go_wp2_with fail
          go_ret
          exact ⟨by rw [P.out]; rfl, KB.out.trans (KA.out.trans ((Kept.refl WA).drewN 1))⟩
        · have hy1 : (n : Int) ≤ y := by omega
          go_wp2_with fail
          refine Ord.region [(0, 0), (1, 0), (2, 0), (3, 0), (4, 0), (5, 1), (6, 0), (7, 0), (8, 0), (9, 0), (10, 0), (11, 1), (12, 0), (13, 0), (14, 0), (15, 1), (16, 0), (17, 0), (18, 1), (19, 0), (20, 1), (21, 0), (22, 0), (23, 0), (24, 1), (25, 0), (26, 0), (27, 0), (28, 0), (29, 0), (30, 1), (31, 0), (32, 0), (33, 0), (34, 1), (35, 0), (36, 0), (37, 1), (38, 0), (39, 1), (40, 0)] (fun w' => Kept WA w') (by kernel_rfl) (by kernel_rfl) (by kernel_rfl) (by kernel_rfl) (fun _ _ d _ _ h => by cases d <;> exact h) ((Kept.refl _).drewN _) ?_
          repeat
            refine Ord.step rfl (fun Ko hK => ?_)
            simp only [Ord.body]
            go_simp
            first
              | (refine hK _ _ ?_; clear hK Ko)
              | (refine ⟨_, fun w' hS => (by have c0 := hS.cell cn; have c1 := hS.cell x1; simp only [c0, c1, Result.andThen]; rfl), hK _ _ ?_⟩; clear hK Ko)
          refine Ord.done ?_
          go_wp2_with fail
          go_ret
          exact ⟨by rw [P.out]; rfl, KB.out.trans (KA.out.trans ((Kept.refl WA).drewN 1))⟩
      obtain ⟨y, hye⟩ : ∃ y : Nat, zAt c r = (y : Int) := ⟨(zAt c r).toNat, by omega⟩
      have FR : Hid (frm es c r = (edAt es y).f) := by
        show frm es c r = _
        unfold frm
        rw [hye, Int.toNat_natCast]
      have HYE := hid_of hye
      rw [hye] at cn hy
      have hyn : y < n := by omega
      have hyi : (y : Int) < (n : Int) := by omega
      have ny0 : ¬ (y : Int) < 0 := by omega
      have ny1 : ¬ (n : Int) ≤ (y : Int) := by omega
      have ey := KA.out.cell (HC.out y hyn).1
      have SOK : Hid ((edAt es y).f = (t : Int) → endTo es c k t = false → ∀ j, j < k + 1 → StepOk es n c L j) := fun h1 h2 j hj => by
        by_cases e : j = k
        · subst e
          refine ⟨by rw [HX.out]; omega, by rw [HR.out, HYE.out]; omega, by rw [TT.out, HR.out, FR.out, h1], fun i hi e => ?_⟩
          have := endTo_iff.2 ⟨i, hi, e.trans TT.out⟩
          rw [h2] at this
          cases this
        · exact HNO.out j (by omega)
      have MISS1 : Hid (¬ (edAt es y).f = (t : Int) → z = false) := fun h1 => MISS.out (fun s => h1 (by have := s.link; rw [TT.out, HR.out, FR.out] at this; exact this.symm))
      have MISS2 : Hid (endTo es c k t = true → z = false) := fun h1 => MISS.out (fun s => by
        obtain ⟨j, hj, e⟩ := endTo_iff.1 h1
        exact s.sole j hj (e.trans TT.out.symm))
      have SU : Hid (∀ v : Nat, endTo es c (k + 1) v = if (v : Int) = (t : Int) then true else endTo es c k v) := fun v => by rw [endTo_succ, TT.out]
      clear hye hy MISS HNO TT HX FR HYE HC HR
      generalize (edAt es y).f = f at ey SOK MISS1
      by_cases hf : f = (t : Int)
      rotate_left
      · have P := hid_of (MISS1.out hf)
        have qt : ((t : Int) != f) = true := by
          rw [bne_iff_ne]
          exact fun e => hf e.symm
        clear MISS1 MISS2 SOK SU hf
        go_wp2_with fail
        refine Ord.region [(0, 0), (1, 0), (2, 0), (3, 0), (4, 0), (5, 1), (6, 0), (7, 0), (8, 0), (9, 0), (10, 0), (11, 1), (12, 0), (13, 0), (14, 0), (15, 1), (16, 0), (17, 0), (18, 1), (19, 0), (20, 1), (21, 0), (22, 0), (23, 0), (24, 1), (25, 0), (26, 0), (27, 0), (28, 0), (29, 0), (30, 1), (31, 0), (32, 0), (33, 0), (34, 1), (35, 0), (36, 0), (37, 1), (38, 0), (39, 1), (40, 0)] (fun w' => Kept WA w') (by kernel_rfl) (by kernel_rfl) (by kernel_rfl) (by kernel_rfl) (fun _ _ d _ _ h => by cases d <;> exact h) ((Kept.refl _).drewN _) ?_
        repeat
          refine Ord.step rfl (fun Ko hK => ?_)
          simp only [Ord.body]
          go_simp
          first
            | (refine hK _ _ ?_; clear hK Ko)
            | (refine ⟨_, fun w' hS => (by have c0 := hS.cell cn; have c1 := hS.cell x1; have c2 := hS.cell ck; have c3 := hS.cell ex; have c4 := hS.cell ey; simp only [c0, c1, c2, c3, c4, Result.andThen]; rfl), hK _ _ ?_⟩; clear hK Ko)
        refine Ord.done ?_
        go_wp2_with fail
        go_ret
        exact ⟨by rw [P.out]; rfl, KB.out.trans (KA.out.trans ((Kept.refl WA).drewN 1))⟩
      subst hf
      have qt : ((t : Int) != (t : Int)) = false := by simp
      have st : WA.cell? ⟨q, t, none⟩ = some (.bool (endTo es c k t)) := BA.out.cell htn
      by_cases hs : endTo es c k t = true
      · have P := hid_of (MISS2.out hs)
        rw [hs] at st
        clear MISS1 MISS2 SOK SU hs
        go_wp2_with fail
        refine Ord.region [(0, 0), (1, 0), (2, 0), (3, 0), (4, 0), (5, 1), (6, 0), (7, 0), (8, 0), (9, 0), (10, 0), (11, 1), (12, 0), (13, 0), (14, 0), (15, 1), (16, 0), (17, 0), (18, 1), (19, 0), (20, 1), (21, 0), (22, 0), (23, 0), (24, 1), (25, 0), (26, 0), (27, 0), (28, 0), (29, 0), (30, 1), (31, 0), (32, 0), (33, 0), (34, 1), (35, 0), (36, 0), (37, 1), (38, 0), (39, 1), (40, 0)] (fun w' => Kept WA w') (by kernel_rfl) (by kernel_rfl) (by kernel_rfl) (by kernel_rfl) (fun _ _ d _ _ h => by cases d <;> exact h) ((Kept.refl _).drewN _) ?_
        repeat
          refine Ord.step rfl (fun Ko hK => ?_)
          simp only [Ord.body]
          go_simp
          first
            | (refine hK _ _ ?_; clear hK Ko)
            | (refine ⟨_, fun w' hS => (by have c0 := hS.cell cn; have c1 := hS.cell x1; have c2 := hS.cell ck; have c3 := hS.cell ex; have c4 := hS.cell ey; have c5 := hS.cell st; simp only [c0, c1, c2, c3, c4, c5, Result.andThen]; rfl), hK _ _ ?_⟩; clear hK Ko)
        refine Ord.done ?_
        go_wp2_with fail
        go_ret
        exact ⟨by rw [P.out]; rfl, KB.out.trans (KA.out.trans ((Kept.refl WA).drewN 1))⟩
      have hs' : endTo es c k t = false := by simpa using hs
      have P := hid_of (SOK.out rfl hs')
      rw [hs'] at st
      clear MISS1 MISS2 SOK hs hs'
      go_wp2_with fail
      refine Ord.region [(0, 0), (1, 0), (2, 0), (3, 0), (4, 0), (5, 1), (6, 0), (7, 0), (8, 0), (9, 0), (10, 0), (11, 1), (12, 0), (13, 0), (14, 0), (15, 1), (16, 0), (17, 0), (18, 1), (19, 0), (20, 1), (21, 0), (22, 0), (23, 0), (24, 1), (25, 0), (26, 0), (27, 0), (28, 0), (29, 0), (30, 1), (31, 0), (32, 0), (33, 0), (34, 1), (35, 0), (36, 0), (37, 1), (38, 0), (39, 1), (40, 0)] (fun w' => Kept WA w') (by kernel_rfl) (by kernel_rfl) (by kernel_rfl) (by kernel_rfl) (fun _ _ d _ _ h => by cases d <;> exact h) ((Kept.refl _).drewN _) ?_
      repeat
        refine Ord.step rfl (fun Ko hK => ?_)
        simp only [Ord.body]
        go_simp
        first
          | (refine hK _ _ ?_; clear hK Ko)
          | (refine ⟨_, fun w' hS => (by have c0 := hS.cell cn; have c1 := hS.cell x1; have c2 := hS.cell ck; have c3 := hS.cell ex; have c4 := hS.cell ey; have c5 := hS.cell st; simp only [c0, c1, c2, c3, c4, c5, Result.andThen]; rfl), hK _ _ ?_⟩; clear hK Ko)
      refine Ord.done ?_
      have KD : Kept WA (WA.drewN 1) := (Kept.refl WA).drewN 1
      replace ck := KD.cell ck
      replace ex := KD.cell ex
      replace x1 := KD.cell x1
      have BB := hid_of (BA.out.kept KD)
      have KBB := hid_of (KA.out.trans KD)
      generalize WA.drewN 1 = WB at ck ex x1 BB KBB ⊢
      clear KD BA KA cn ey st hrem
      have cs := BB.out.cell htn
      have fs := World.rowIs.frozen BB.out t
      go_wp2_with fail
      refine Ord.regionZ 11 [(0, 0), (1, 0), (2, 1), (3, 0), (4, 0), (5, 0), (6, 1), (7, 0), (8, 0), (9, 1), (10, 0), (11, 3)] (fun w' => Kept WB w') (by kernel_rfl) (by kernel_rfl) (by kernel_rfl) (by kernel_rfl) (fun _ _ d _ _ h => by cases d <;> exact h) ((Kept.refl _).drewN _) ?_
      repeat
        refine Ord.stepZ rfl (fun Ko hK => ?_)
        simp only [Ord.bodyZ, Ord.body]
        go_simp
        first
          | (refine hK _ _ ?_; clear hK Ko)
          | (refine ⟨(Kept.refl _).drewN _, hK _ _ ?_⟩; clear hK Ko)
          | (refine ⟨_, fun w' hS => (by have c0 := hS.cell ck; simp only [c0, Result.andThen]; rfl), hK _ _ ?_⟩; clear hK Ko)
          | (refine ⟨_, fun w' hS => (by have c0 := hS.cell ex; simp only [c0, Result.andThen]; rfl), hK _ _ ?_⟩; clear hK Ko)
          | (refine ⟨_, fun w' hS => (by have c0 := hS.cell x1; simp only [c0, Result.andThen]; rfl), hK _ _ ?_⟩; clear hK Ko)
      refine Ord.doneZ ?_
      have KD2 : Kept WB (WB.drewN 1) := (Kept.refl WB).drewN 1
      have BN : Hid (BlsAt ((WB.drewN 1).setCell ⟨q, t, none⟩ (.bool true)) q N (fun v => endTo es c (k + 1) v)) := (BlsAt.set (BB.out.kept KD2) t true).congr (fun u _ => by
        simp only []
        rw [SU.out u]
        by_cases hu : u = t
        · subst hu; simp
        · have h2 : ¬ (u : Int) = (t : Int) := by omega
          rw [if_neg hu, if_neg h2])
      have KN : Hid (Kept wb ((WB.drewN 1).setCell ⟨q, t, none⟩ (.bool true))) := (KBB.out.trans KD2).setCell (p := ⟨q, t, none⟩) (by rw [HQ.out]; exact Nat.le_refl _) _
      go_wp2_with fail
      go_roundw
      case rel => exact ⟨k + 1, by omega, by go_num, BN.out, KN.out, P.out⟩
      case measure => simp [intOf]; omega
    · obtain rfl : k = L := by omega
      have P := hid_of (hY.out ⟨by omega, by omega, fun j hj => (HNO.out j hj).rng, fun j hj => (HNO.out j hj).link, fun j hj => (HNO.out j hj).sole⟩)
      have KF := hid_of (KB.out.trans KH.out)
      clear K KH HNO BRH
      go_wp2_with fail
      go_ret
      exact ⟨by rw [P.out]; rfl, KF.out⟩
end Go.Proofs.Ytomopfjaebcpeaa
