/- One text of VmF, VmH, VmI. -/
import Derived.Test.YtpdppjngbbkbbaaDoorVmA
import Derived.Test.YtpdppjngbbkbbaaDoorVmG
namespace Go.Proofs.YtpdppjngbbkbbaaDoor
open Go.RowKit

/-- How many of the first k edges lie within a set. -/
def innTo (es : List Ed) (ss : Sets) (o : List Int) (i k : Nat) : Int := sm (fun j => if hasIn ss i (frm es o j).toNat && hasIn ss i (tto es o j).toNat then 1 else 0) k

theorem takTo_add {es : List Ed} {N : Nat} {o : List Int} {k : Nat} (p : Nat → Int) (e1 : 0 ≤ frm es o k) (e2 : frm es o k < (N : Int)) (e3 : 0 ≤ tto es o k) (e4 : tto es o k < (N : Int)) : sm (fun v => p v * takTo es o (k + 1) v) N = (sm (fun v => p v * takTo es o k v) N + p (frm es o k).toNat) + p (tto es o k).toNat := by
  have step : sm (fun v => p v * takTo es o (k + 1) v) N = (sm (fun v => p v * takTo es o k v) N + sm (fun v => if frm es o k = (v : Int) then p v else 0) N) + sm (fun v => if tto es o k = (v : Int) then p v else 0) N := by
    rw [← sm_add, ← sm_add]
    refine sm_congr fun v _ => ?_
    rw [takTo_succ, Int.mul_add, Int.mul_add]
    congr 1
    · congr 1
      split
      · rw [Int.mul_one]
      · rw [Int.mul_zero]
    · split
      · rw [Int.mul_one]
      · rw [Int.mul_zero]
  rw [sm_pick p (frm es o k) N e1 e2, sm_pick p (tto es o k) N e3 e4] at step
  exact step

/-- A sum of what is not below 0 that is 0: each is. -/
theorem sm_all0 {f : Nat → Int} : ∀ N, (∀ v, v < N → 0 ≤ f v) → sm f N ≤ 0 → ∀ v, v < N → f v = 0 := by
  intro N
  induction N with
  | zero => intro _ _ v hv; omega
  | succ N ih =>
    intro hp hs v hv
    rw [sm_succ] at hs
    have h0 : 0 ≤ sm f N := by
      have := sm_le (f := fun _ => (0 : Int)) (g := f) (k := N) fun v hv => hp v (by omega)
      rwa [sm_zero] at this
    have h1 := hp N (by omega)
    by_cases e : v = N
    · subst e; omega
    · exact ih (fun v hv => hp v (by omega)) (by omega) v (by omega)

theorem all_ones (N : Nat) : sm (fun _ => (1 : Int)) N = (N : Int) := by
  induction N with
  | zero => rfl
  | succ k ih => rw [sm_succ, ih]; omega

/-- A matching of all nodes has an edge at each. -/
theorem perfect_ones {es : List Ed} {N n : Nat} (he : EndsIn es N n) {o : List Int} {lo : Nat} (ok : MatchOk es n o lo) (hp : 2 * lo = N) : ∀ v, v < N → takTo es o lo v = 1 := by
  have tk := (tak_one (n := n) (N := N) (c := o) (L := lo) he).2 ok
  have cnt : ∀ k, k ≤ lo → sm (fun v => 1 * takTo es o k v) N = 2 * (k : Int) := by
    intro k
    induction k with
    | zero =>
      intro _
      have : sm (fun v => 1 * takTo es o 0 v) N = sm (fun _ => 0) N := sm_congr fun v _ => rfl
      rw [this, sm_zero]; rfl
    | succ k ih =>
      intro hk
      obtain ⟨r1, r2⟩ := ok.1.rng (j := k) (by omega)
      obtain ⟨e1, e2, e3, e4⟩ := he (zAt o k).toNat (by omega)
      rw [takTo_add (fun _ => 1) e1 e2 e3 e4, ih (by omega)]
      omega
  have c := cnt lo (Nat.le_refl _)
  have le1 : ∀ v, v < N → takTo es o lo v ≤ 1 := fun v hv => by
    have t := tk.2.2 v hv
    rwa [onesTo_at hv] at t
  have z := sm_all0 (f := fun v => 1 - takTo es o lo v) N (fun v hv => by have := le1 v hv; omega) (by
    have s := sm_sub (fun _ => (1 : Int)) (fun v => 1 * takTo es o lo v) N
    rw [all_ones, c] at s
    have e : sm (fun v => 1 - takTo es o lo v) N = sm (fun v => (1 : Int) - 1 * takTo es o lo v) N := sm_congr fun v _ => by omega
    rw [e, s]; omega)
  intro v hv
  have := z v hv
  omega

/-- Within a set lie no more edges than half of its nodes. -/
theorem inn_le {es : List Ed} {N n : Nat} (he : EndsIn es N n) {ss : Sets} {i : Nat} (hs : SetOk N (setAt ss i)) {o : List Int} {lo : Nat} (ok : MatchOk es n o lo) : 2 * innTo es ss o i lo ≤ ((setAt ss i).1.length : Int) := by
  obtain ⟨x, hx⟩ : ∃ x, (setAt ss i).1 = x := ⟨_, rfl⟩
  have ris : RiseTo x (N : Int) x.length := by rw [← hx]; exact hs.1
  have tk := (tak_one (n := n) (N := N) (c := o) (L := lo) he).2 ok
  have up : sm (fun j => takTo es o lo (zAt x j).toNat) x.length ≤ sm (fun _ => 1) x.length := sm_le fun j hj => by
    have r := ris.rng hj
    have t := tk.2.2 (zAt x j).toNat (by omega)
    rwa [onesTo_at (by omega)] at t
  rw [all_ones] at up
  have dn : ∀ k : Nat, k ≤ lo → 2 * innTo es ss o i k ≤ sm (fun j => takTo es o k (zAt x j).toNat) x.length := by
    intro k
    induction k with
    | zero =>
      intro _
      have : sm (fun j => takTo es o 0 (zAt x j).toNat) x.length = sm (fun _ => 0) x.length := sm_congr fun j _ => rfl
      rw [this, sm_zero]; exact Int.le_refl _
    | succ k ih =>
      intro hk
      have ih := ih (by omega)
      obtain ⟨r1, r2⟩ := ok.1.rng (j := k) (by omega)
      obtain ⟨e1, e2, e3, e4⟩ := he (zAt o k).toNat (by omega)
      have step : sm (fun j => takTo es o (k + 1) (zAt x j).toNat) x.length = (sm (fun j => takTo es o k (zAt x j).toNat) x.length + sm (fun j => if frm es o k = zAt x j then 1 else 0) x.length) + sm (fun j => if tto es o k = zAt x j then 1 else 0) x.length := by
        rw [← sm_add, ← sm_add]
        refine sm_congr fun j hj => ?_
        have r := ris.rng hj
        rw [takTo_succ, show (((zAt x j).toNat : Nat) : Int) = zAt x j by omega]
      have a := hits_bd x (frm es o k) x.length
      have b := hits_bd x (tto es o k) x.length
      have inn : innTo es ss o i (k + 1) = innTo es ss o i k + if hasIn ss i (frm es o k).toNat && hasIn ss i (tto es o k).toNat then 1 else 0 := rfl
      rw [inn, step]
      by_cases hb : (hasIn ss i (frm es o k).toNat && hasIn ss i (tto es o k).toNat) = true
      · rw [if_pos hb]
        unfold hasIn at hb
        rw [hx, Bool.and_eq_true] at hb
        have p := hits_in (f := frm es o k) e1 hb.1
        have q := hits_in (f := tto es o k) e3 hb.2
        omega
      · rw [if_neg hb]; omega
  have := dn lo (Nat.le_refl _)
  rw [hx]
  omega

/-- No matching of all nodes costs less than half of what weights are together. -/
theorem dual_le {es : List Ed} {N n : Nat} {Y : List Int} {ss : Sets} {ns : Nat} (he : EndsIn es N n) (hW : WtsOk Y N ss ns N) (hP : ∀ i, i < n → lp es i = true ∨ pairOf Y ss ns (edAt es i).f.toNat (edAt es i).t.toNat ≤ 2 * (edAt es i).k) {o : List Int} {lo : Nat} (ok : MatchOk es n o lo) (hp : 2 * lo = N) : worthOf Y N ss ns ≤ 2 * csum es o lo := by
  have one := perfect_ones he ok hp
  have dn : ∀ k : Nat, k ≤ lo → sm (fun v => zAt Y v * takTo es o k v) N - sm (fun i => (setAt ss i).2 * innTo es ss o i k) ns ≤ 2 * csum es o k := by
    intro k
    induction k with
    | zero =>
      intro _
      have a : sm (fun v => zAt Y v * takTo es o 0 v) N = sm (fun _ => 0) N := sm_congr fun v _ => by show zAt Y v * 0 = 0; omega
      have b : sm (fun i => (setAt ss i).2 * innTo es ss o i 0) ns = sm (fun _ => 0) ns := sm_congr fun i _ => by show (setAt ss i).2 * 0 = 0; omega
      rw [a, b, sm_zero, sm_zero]; exact Int.le_refl _
    | succ k ih =>
      intro hk
      have ih := ih (by omega)
      obtain ⟨r1, r2⟩ := ok.1.rng (j := k) (by omega)
      obtain ⟨e1, e2, e3, e4⟩ := he (zAt o k).toNat (by omega)
      have hne := (ok.2 k (by omega)).1
      have st := takTo_add (N := N) (zAt Y) (o := o) (k := k) e1 e2 e3 e4
      have ss1 : sm (fun i => (setAt ss i).2 * innTo es ss o i (k + 1)) ns = sm (fun i => (setAt ss i).2 * innTo es ss o i k) ns + sm (fun i => if hasIn ss i (frm es o k).toNat && hasIn ss i (tto es o k).toNat then (setAt ss i).2 else 0) ns := by
        rw [← sm_add]
        refine sm_congr fun i _ => ?_
        have inn : innTo es ss o i (k + 1) = innTo es ss o i k + if hasIn ss i (frm es o k).toNat && hasIn ss i (tto es o k).toNat then 1 else 0 := rfl
        rw [inn, Int.mul_add]
        congr 1
        split
        · rw [Int.mul_one]
        · rw [Int.mul_zero]
      have cs : csum es o (k + 1) = csum es o k + (edAt es (zAt o k).toNat).k := rfl
      rcases hP (zAt o k).toNat (by omega) with c | c
      · exact absurd (by unfold lp at c; rw [beq_iff_eq] at c; exact c) hne
      · have c : (zAt Y (frm es o k).toNat + zAt Y (tto es o k).toNat) - sm (fun i => if hasIn ss i (frm es o k).toNat && hasIn ss i (tto es o k).toNat then (setAt ss i).2 else 0) ns ≤ 2 * (edAt es (zAt o k).toNat).k := c
        rw [st, ss1, cs]; omega
  have d := dn lo (Nat.le_refl _)
  have a : sm (fun v => zAt Y v * takTo es o lo v) N = sm (zAt Y) N := sm_congr fun v hv => by rw [one v hv, Int.mul_one]
  have b : sm (fun i => (setAt ss i).2 * innTo es ss o i lo) ns ≤ sm (fun i => setHalf (setAt ss i)) ns := sm_le fun i hi => by
    have l := inn_le he (hW.2.2 i hi) ok
    have z := (hW.2.2 i hi).2.2.1
    unfold setHalf
    exact Int.mul_le_mul_of_nonneg_left (by omega) z
  rw [a] at d
  unfold worthOf
  omega
end Go.Proofs.YtpdppjngbbkbbaaDoor
namespace Go.Proofs.YtpdppjngbbkbbaaDoor
open Go.RowKit

theorem allTo_succ (k : Nat) : allTo (k + 1) = allTo k ++ [(k : Int)] := by
  unfold allTo
  rw [List.range_succ, List.map_append]
  rfl
theorem odd_tak (es : List Ed) (c : List Int) (v : Nat) : ∀ k, (takTo es c k v).tmod 2 = if odTo es c k v then 1 else 0 := by
  intro k
  have nn : ∀ k, 0 ≤ takTo es c k v := fun k => (takTo_bd es c k v).1
  have key : ∀ k, takTo es c k v % 2 = if odTo es c k v then 1 else 0 := by
    intro k
    induction k with
    | zero => rfl
    | succ k ih =>
      rw [odTo_succ, takTo_succ]
      unfold flip
      cases h : odTo es c k v with
      | true =>
        rw [h] at ih
        simp only [if_true] at ih
        by_cases a : frm es c k = (v : Int)
        · by_cases b : tto es c k = (v : Int)
          · rw [if_pos a, if_pos b, if_pos b, if_pos a]; simp; omega
          · rw [if_pos a, if_neg b, if_neg b, if_pos a]; simp; omega
        · by_cases b : tto es c k = (v : Int)
          · rw [if_neg a, if_pos b, if_pos b, if_neg a]; simp; omega
          · rw [if_neg a, if_neg b, if_neg b, if_neg a]; simp; omega
      | false =>
        rw [h] at ih
        simp only [Bool.false_eq_true, if_false] at ih
        by_cases a : frm es c k = (v : Int)
        · by_cases b : tto es c k = (v : Int)
          · rw [if_pos a, if_pos b, if_pos b, if_pos a]; simp; omega
          · rw [if_pos a, if_neg b, if_neg b, if_pos a]; simp; omega
        · by_cases b : tto es c k = (v : Int)
          · rw [if_neg a, if_pos b, if_pos b, if_neg a]; simp; omega
          · rw [if_neg a, if_neg b, if_neg b, if_neg a]; simp; omega
  rw [Int.tmod_eq_emod_of_nonneg (nn k)]
  exact key k

set_option maxRecDepth 100000 in
set_option linter.unusedSimpArgs false in
set_option maxHeartbeats 4000000 in
theorem allR_calls (nodes : Int) (ao : Option Addr) (n cap : Nat) (hn : n ≤ 4096) (w : World) :
    Calls Tryd.prog 39 #[.agg #[.int .i64 nodes, .slice ao n cap]] w fun r w' => ∃ so sc, r = .returned (.slice so n sc) ∧ JRow w' so n sc (allTo n) ∧ Kept w w' := by
  obtain ⟨i0, hi, hz0, hz1, hz2⟩ := infoJ
  have KW : Kept w (w.alloc (Obj.cells #[.int .i64 nodes, .slice ao n cap] 24)) := (Kept.refl w).alloc _
  have w1 : (w.alloc (Obj.cells #[.int .i64 nodes, .slice ao n cap] 24)).cell? ⟨w.heap.size, 1, none⟩ = some (.slice ao n cap) := by simp [go_sem]
  go_enter Tryd.func39, Tryd.ntmps39
  go_wp2_with fail
  generalize w.alloc (Obj.cells #[.int .i64 nodes, .slice ao n cap] 24) = WQ at KW w1 ⊢
  have KWH := hid_of KW
  have W1H := hid_of w1
  have O1 : Hid (WQ.ownsRow WQ.heap.size 3 1 (.slice none 0 0) 0 (jvals (allTo 0))) := World.ownsRow_nil _ _ _ _
  clear KW w1
  go_loopw [3, 4] (fun qv i w2 => ∃ (k : Nat), k ≤ n ∧ i = .int .i64 k ∧ w2.ownsRow WQ.heap.size 3 1 qv k (jvals (allTo k)) ∧ Kept WQ w2) (fun _ i _ => n - (intOf i).toNat)
  case atStart => exact ⟨0, by omega, rfl, O1.out, Kept.refl _⟩
  case round =>
    obtain ⟨k, hk, rfl, OR, K2⟩ := hrel
    clear O1
    have K2H := hid_of K2
    obtain ⟨so, sc, rfl⟩ := owns_slice1j OR
    have ORH := hid_of OR
    have w1 := K2.cell W1H.out
    by_cases hgo : (k : Int) < (n : Int)
    · have NW := hid_of (cell_newj wr 3 (.int .i64 (k : Int)))
      have HM := hid_of (World.ownsRow.alloc ORH.out (Obj.cells #[.int .i64 (k : Int)] 3))
      have hbw : WQ.heap.size ≤ wr.heap.size := K2H.out.size
      clear K2 OR
      go_wp2_with (at_builtin; refine wpList_append_own_at _ rfl _ _ 25 rfl WQ.heap.size 3 i0 (.int .i64 0) 1 8 Tryd.underlying25 hi hz0 hz1 hz2 rfl (by decide) _ _ _ rfl HM.out ⟨wr.heap.size, 0, none⟩ 1 1 [.int .i64 (k : Int)] rfl rfl NW.out (by intro u hu; simp at hu; subst hu; rfl) (by unfold maxLen; omega) (by omega) (by simp; omega) ?_)
      intro u' w4 hown hgrow _ _
      have O4 : Hid (w4.ownsRow WQ.heap.size 3 1 u' (k + 1) (jvals (allTo (k + 1)))) := by
        rw [allTo_succ, ← jvals_snoc]
        exact hown
      have KA : Kept WQ (wr.alloc (Obj.cells #[.int .i64 (k : Int)] 3)) := K2H.out.alloc _
      have K4 : Hid (Kept WQ w4) := Below.grown KA hgrow KA.size (fun kk e => (ORH.out.lt kk e).1)
      clear hown hgrow HM NW ORH KA K2H w1
      go_wp2_with fail
      go_roundw
      case rel => exact ⟨k + 1, by omega, by go_num, O4.out, K4.out⟩
      case measure => simp [intOf]; omega
    · obtain rfl : k = n := by omega
      have JF : Hid (JRow wr so k sc (allTo k)) := JRow.of_owns OR
      have KF := hid_of (KWH.out.trans K2)
      clear OR K2 ORH
      go_wp2
      go_ret
      exact ⟨so, sc, rfl, JF.out, KF.out⟩

set_option maxRecDepth 100000 in
set_option linter.unusedSimpArgs false in
set_option maxHeartbeats 4000000 in
theorem unevenR_calls (N : Nat) (hN : N ≤ 1024) (ao : Option Addr) (n cap : Nat) (es : List Ed) (co : Option Addr) (L cc : Nat) (c : List Int) (w : World) (h : ERow w ao n cap es) (hJ : JRow w co L cc c) (hr : ∀ j, j < L → 0 ≤ zAt c j ∧ zAt c j < (n : Int)) (hL : L ≤ 4096) :
    Calls Tryd.prog 86 #[.agg #[.int .i64 (N : Int), .slice ao n cap], .slice co L cc] w fun r w' => ∃ so len sc, r = .returned (.slice so len sc) ∧ JRow w' so len sc (unevTo (odTo es c L) N) ∧ Kept w w' := by
  obtain ⟨i0, hi, hz0, hz1, hz2⟩ := infoJ
  have KW : Kept w (w.alloc (Obj.cells #[.int .i64 (N : Int), .slice ao n cap] 24)) := (Kept.refl w).alloc _
  have w0 : (w.alloc (Obj.cells #[.int .i64 (N : Int), .slice ao n cap] 24)).cell? ⟨w.heap.size, 0, none⟩ = some (.int .i64 (N : Int)) := by simp [go_sem]
  have w1 : (w.alloc (Obj.cells #[.int .i64 (N : Int), .slice ao n cap] 24)).cell? ⟨w.heap.size, 1, none⟩ = some (.slice ao n cap) := by simp [go_sem]
  have HE := hid_of h
  have HJ := hid_of hJ
  have HR := hid_of hr
  clear h hJ hr
  go_enter Tryd.func86, Tryd.ntmps86
  go_wp2_with fail
  generalize w.alloc (Obj.cells #[.int .i64 (N : Int), .slice ao n cap] 24) = WQ at KW w0 w1 ⊢
  have KWH := hid_of KW
  have W0H := hid_of w0
  have W1H := hid_of w1
  have AC := hid_of (fun w' (K : Kept WQ w') v => atR_calls (N : Int) ao n cap es co L cc c v w' (HE.out.kept (KWH.out.trans K)) (HJ.out.kept (KWH.out.trans K)) HR.out hL)
  obtain ⟨p, hpe⟩ : ∃ p, odTo es c L = p := ⟨_, rfl⟩
  have OT := hid_of (fun v => (by rw [← hpe]; exact odd_tak es c v L : (takTo es c L v).tmod 2 = if p v then 1 else 0))
  have HPE := hid_of hpe
  have O1 : Hid (WQ.ownsRow WQ.heap.size 3 1 (.slice none 0 0) (unevTo p 0).length (jvals (unevTo p 0))) := World.ownsRow_nil _ _ _ _
  clear KW w0 w1 hpe
  go_loopw [5, 6] (fun qv i w2 => ∃ (j : Nat), j ≤ N ∧ i = .int .i64 j ∧ w2.ownsRow WQ.heap.size 3 1 qv (unevTo p j).length (jvals (unevTo p j)) ∧ Kept WQ w2) (fun _ i _ => N - (intOf i).toNat)
  case atStart => exact ⟨0, by omega, rfl, O1.out, Kept.refl _⟩
  case round =>
    obtain ⟨j, hj, rfl, OR, K2⟩ := hrel
    clear O1
    have K2H := hid_of K2
    have w0 := K2.cell W0H.out
    have w1 := K2.cell W1H.out
    obtain ⟨len, hlen⟩ : ∃ len, (unevTo p j).length = len := ⟨_, rfl⟩
    have hlj := unevTo_len p j
    rw [hlen] at OR hlj
    have HLEN := hid_of hlen
    obtain ⟨so, sc, rfl⟩ := owns_slice1j OR
    have ORH := hid_of OR
    by_cases hgo : (j : Int) < (N : Int)
    · have hjN : j < N := by omega
      have SU := hid_of (unevTo_succ p j)
      have TM := OT.out j
      have CA := hid_of (AC.out wr K2 j)
      generalize takTo es c L j = tk at TM CA
      clear K2 OR hlen
      go_wp2_with fail
      refine CA.out.mono ?_
      rintro e w5 ⟨rfl, K5⟩
      have OR5 := hid_of (ownsK ORH.out K5)
      have K5H := hid_of (K2H.out.trans K5)
      clear K5 CA ORH K2H w0 w1
      by_cases hp : p j = true
      · have TM1 : tk.tmod 2 = 1 := by rw [TM, if_pos hp]
        have SU2 : Hid (unevTo p (j + 1) = unevTo p j ++ [(j : Int)]) := by show _ = _; rw [SU.out, if_pos hp]
        have NW := hid_of (cell_newj w5 3 (.int .i64 (j : Int)))
        have HM := hid_of (World.ownsRow.alloc OR5.out (Obj.cells #[.int .i64 (j : Int)] 3))
        have hbw : WQ.heap.size ≤ w5.heap.size := K5H.out.size
        clear SU hp TM
        go_wp2_with (at_builtin; refine wpList_append_own_at _ rfl _ _ 25 rfl WQ.heap.size 3 i0 (.int .i64 0) 1 8 Tryd.underlying25 hi hz0 hz1 hz2 rfl (by decide) _ _ _ rfl HM.out ⟨w5.heap.size, 0, none⟩ 1 1 [.int .i64 (j : Int)] rfl rfl NW.out (by intro u hu; simp at hu; subst hu; rfl) (by unfold maxLen; omega) (by omega) (by simp; omega) ?_)
        intro u' w4 hown hgrow _ _
        have O4 : Hid (w4.ownsRow WQ.heap.size 3 1 u' (unevTo p (j + 1)).length (jvals (unevTo p (j + 1)))) := by
          rw [SU2.out]
          show w4.ownsRow WQ.heap.size 3 1 u' (unevTo p j ++ [(j : Int)]).length (jvals (unevTo p j ++ [(j : Int)]))
          rw [← jvals_snoc, List.length_append, HLEN.out]
          exact hown
        have KA : Kept WQ (w5.alloc (Obj.cells #[.int .i64 (j : Int)] 3)) := K5H.out.alloc _
        have K4 : Hid (Kept WQ w4) := Below.grown KA hgrow KA.size (fun kk e => (OR5.out.lt kk e).1)
        clear hown hgrow HM NW OR5 KA K5H
        go_wp2_with fail
        go_roundw
        case rel => exact ⟨j + 1, by omega, by go_num, O4.out, K4.out⟩
        case measure => simp [intOf]; omega
      · have TM1 : tk.tmod 2 = 0 := by rw [TM, if_neg hp]
        have O4 : Hid (w5.ownsRow WQ.heap.size 3 1 (.slice so len sc) (unevTo p (j + 1)).length (jvals (unevTo p (j + 1)))) := by
          rw [SU.out, if_neg hp, HLEN.out]
          exact OR5.out
        clear SU hp TM OR5
        go_wp2_with fail
        go_roundw
        case rel => exact ⟨j + 1, by omega, by go_num, O4.out, K5H.out⟩
        case measure => simp [intOf]; omega
    · obtain rfl : j = N := by omega
      have JF : Hid (JRow wr so len sc (unevTo p j)) := JRow.of_owns OR
      have KF := hid_of (KWH.out.trans K2)
      clear OR K2 ORH
      go_wp2
      go_ret
      exact ⟨so, len, sc, rfl, by rw [HPE.out]; exact JF.out, KF.out⟩

set_option maxRecDepth 100000 in
set_option linter.unusedSimpArgs false in
set_option maxHeartbeats 2000000 in
theorem intsR_calls (ao : Option Addr) (n cap : Nat) (xs : List Int) (bo : Option Addr) (m bc : Nat) (ys : List Int) (z : Bool) (hY : Hid (xs = ys → z = true)) (hN : Hid (xs ≠ ys → z = false)) (w : World) (hA : JRow w ao n cap xs) (hB : JRow w bo m bc ys) :
    Calls Tryd.prog 89 #[.slice ao n cap, .slice bo m bc] w fun r w' => r = .returned (.bool z) ∧ Kept w w' := by
  have hr1 := hA.room
  have hm1 := hA.most
  have hr2 := hB.room
  have hm2 := hB.most
  unfold maxLen at hm1 hm2
  by_cases hnm : n = m
  rotate_left
  · have P := hid_of (hN.out (fun t => hnm (by rw [hA.len, hB.len, t])))
    have q : ((n : Int) != (m : Int)) = true := by rw [bne_iff_ne]; omega
    go_enter Tryd.func89, Tryd.ntmps89
    go_wp2_with fail
    go_ret
    exact ⟨by rw [P.out]; rfl, Kept.refl _⟩
  subst hnm
  have q : ((n : Int) != (n : Int)) = false := by simp
  have HA := hid_of hA
  have HB := hid_of hB
  clear hA hB
  go_enter Tryd.func89, Tryd.ntmps89
  go_wp2_with fail
  go_loopw [5] (fun i wr => ∃ (k : Nat), k ≤ n ∧ i = .int .i64 k ∧ Kept w wr ∧ ∀ j, j < k → zAt xs j = zAt ys j) (fun i _ => n - (intOf i).toNat)
  case atStart => exact ⟨0, by omega, rfl, Kept.refl _, fun i hi => by omega⟩
  case round =>
    obtain ⟨k, hk, rfl, K, hno⟩ := hrel
    have HNO := hid_of hno
    have KH := hid_of K
    clear hno
    by_cases hgo : (k : Int) < (n : Int)
    · obtain ⟨b1, o1, rfl, hc1⟩ := (HA.out.kept K).at (by omega)
      obtain ⟨b2, o2, rfl, hc2⟩ := (HB.out.kept K).at (by omega)
      have d1 := hc1 k (by omega)
      have d2 := hc2 k (by omega)
      have HIT : Hid (zAt xs k = zAt ys k → ∀ j, j < k + 1 → zAt xs j = zAt ys j) := fun hb i hi => by
        by_cases e : i = k
        · subst e; exact hb
        · exact HNO.out i (by omega)
      have MISS : Hid (zAt xs k ≠ zAt ys k → xs ≠ ys) := fun hb t => hb (by rw [t])
      generalize zAt xs k = x at d1 HIT MISS
      generalize zAt ys k = y at d2 HIT MISS
      clear hc1 hc2 K
      by_cases he : x = y
      · have P := hid_of (HIT.out he)
        have qx : (x != y) = false := by simp [he]
        clear HIT MISS he
        go_wp2_with fail
        refine Ord.region [(0, 0), (1, 0), (2, 0), (3, 1), (4, 0), (5, 0), (6, 0), (7, 1), (8, 0)] (fun w' => Kept wr w') (by kernel_rfl) (by kernel_rfl) (by kernel_rfl) (by kernel_rfl) (fun _ _ d _ _ h => by cases d <;> exact h) ((Kept.refl _).drewN _) ?_
        repeat
          refine Ord.step rfl (fun Ko hK => ?_)
          simp only [Ord.body]
          go_simp
          first
            | (refine hK _ _ ?_; clear hK Ko)
            | (refine ⟨_, fun w' hS => (by have c0 := hS.cell d1; have c1 := hS.cell d2; simp only [c0, c1, Result.andThen]; rfl), hK _ _ ?_⟩; clear hK Ko)
        refine Ord.done ?_
        go_wp2
        go_roundw
        case rel => exact ⟨k + 1, by omega, by go_num, KH.out.drewN _, P.out⟩
        case measure => simp [intOf]; omega
      · have P := hid_of (hN.out (MISS.out he))
        have qx : (x != y) = true := by rw [bne_iff_ne]; exact he
        clear HIT MISS he
        go_wp2_with fail
        refine Ord.region [(0, 0), (1, 0), (2, 0), (3, 1), (4, 0), (5, 0), (6, 0), (7, 1), (8, 0)] (fun w' => Kept wr w') (by kernel_rfl) (by kernel_rfl) (by kernel_rfl) (by kernel_rfl) (fun _ _ d _ _ h => by cases d <;> exact h) ((Kept.refl _).drewN _) ?_
        repeat
          refine Ord.step rfl (fun Ko hK => ?_)
          simp only [Ord.body]
          go_simp
          first
            | (refine hK _ _ ?_; clear hK Ko)
            | (refine ⟨_, fun w' hS => (by have c0 := hS.cell d1; have c1 := hS.cell d2; simp only [c0, c1, Result.andThen]; rfl), hK _ _ ?_⟩; clear hK Ko)
        refine Ord.done ?_
        go_wp2
        go_ret
        exact ⟨by rw [P.out]; rfl, KH.out.drewN _⟩
    · obtain rfl : k = n := by omega
      have e : xs = ys := by
        have la := HA.out.len
        have lb := HB.out.len
        refine List.ext_getElem (by omega) fun i h1 h2 => ?_
        have := HNO.out i (by omega)
        unfold zAt at this
        simpa [List.getD, h1, h2] using this
      have P := hid_of (hY.out e)
      clear K e HNO
      go_wp2
      go_ret
      exact ⟨by rw [P.out]; rfl, KH.out⟩

/-- Edges that, walked twice, make all even. -/
def EvOk (es : List Ed) (N n : Nat) (c : List Int) (L : Nat) : Prop := RiseTo c (n : Int) L ∧ unevTo (odTo es c L) N = unevAll es N n

set_option maxRecDepth 100000 in
set_option linter.unusedSimpArgs false in
set_option maxHeartbeats 4000000 in
theorem evensR_calls (N : Nat) (ao : Option Addr) (n cap : Nat) (es : List Ed) (co : Option Addr) (L cc : Nat) (c : List Int) (w : World) (h : ERow w ao n cap es) (hJ : JRow w co L cc c) (RG : Right N n es) :
    Calls Tryd.prog 40 #[.agg #[.int .i64 (N : Int), .slice ao n cap], .slice co L cc] w fun r w' => Kept w w' ∧ ((EvOk es N n c L ∧ r = .returned (.bool true)) ∨ (¬ EvOk es N n c L ∧ r = .returned (.bool false))) := by
  have hnot : ∀ (x : Bool) (w : World), (Op.unary .not (.bool x)).run Tryd.prog w = .ok (.bool (!x)) w := fun _ _ => rfl
  have hN := RG.nodes
  have hn := RG.edges
  have KW : Kept w (w.alloc (Obj.cells #[.int .i64 (N : Int), .slice ao n cap] 24)) := (Kept.refl w).alloc _
  have w0 : (w.alloc (Obj.cells #[.int .i64 (N : Int), .slice ao n cap] 24)).cell? ⟨w.heap.size, 0, none⟩ = some (.int .i64 (N : Int)) := by simp [go_sem]
  have w1 : (w.alloc (Obj.cells #[.int .i64 (N : Int), .slice ao n cap] 24)).cell? ⟨w.heap.size, 1, none⟩ = some (.slice ao n cap) := by simp [go_sem]
  have hr1 := h.room
  have hm1 := h.most
  unfold maxLen at hm1
  have HE := hid_of h
  have HJ := hid_of hJ
  clear h hJ RG
  go_enter Tryd.func40, Tryd.ntmps40
  go_upto_region 1 with fail
  generalize w.alloc (Obj.cells #[.int .i64 (N : Int), .slice ao n cap] 24) = W1 at KW w0 w1 ⊢
  have KWH := hid_of KW
  have W0H := hid_of w0
  have W1H := hid_of w1
  have RC := hid_of (fun w' (K : Kept W1 w') => risingR_calls co L cc c (n : Int) w' (HJ.out.kept (KWH.out.trans K)))
  clear KW
  by_cases ris : RiseTo c (n : Int) L
  rotate_left
  · have RC2 := hid_of (fun w' (K : Kept W1 w') => (RC.out w' K).mono (fun r w'' hp => (show Kept w' w'' ∧ r = .returned (.bool false) from ⟨hp.1, hp.2.elim (fun t => absurd t.1 ris) (fun t => t.2)⟩)))
    have P : Hid (¬ EvOk es N n c L) := fun t => ris t.1
    clear ris RC W0H W1H
    refine Ord.region [(0, 0), (1, 0), (2, 1), (3, 0), (4, 2), (5, 0), (6, 1), (7, 0), (9, 1), (10, 1), (8, 2), (11, 2), (12, 2), (13, 2), (14, 0), (15, 0)] (fun w' => Kept W1 w') (by kernel_rfl) (by kernel_rfl) (by kernel_rfl) (by kernel_rfl) (fun _ _ d _ _ h => by cases d <;> exact h) ((Kept.refl _).drewN _) ?_
    repeat
      refine Ord.step rfl (fun Ko hK => ?_)
      simp only [Ord.body]
      go_simp
      first
        | (refine hK _ _ ?_; clear hK Ko)
        | (refine ⟨_, fun w' hS => (by have c0 := hS.cell w0; have c1 := hS.cell w1; simp only [c0, c1, Result.andThen]; rfl), hK _ _ ?_⟩; clear hK Ko)
        | (go_at_call 54; refine (RC2.out _ ((Kept.refl _).drewN _)).mono ?_; clear RC2; rintro e w5 ⟨K5, rfl⟩; refine ⟨((Kept.refl _).drewN _).trans K5, hK _ _ ?_⟩; clear hK Ko)
    refine Ord.done ?_
    have KN := hid_of (KWH.out.trans (((Kept.refl W1).drewN 1).trans K5))
    clear K5 w0 w1
    go_wp2
    go_ret
    exact ⟨KN.out, .inr ⟨P.out, rfl⟩⟩
  have RC2 := hid_of (fun w' (K : Kept W1 w') => (RC.out w' K).mono (fun r w'' hp => (show Kept w' w'' ∧ r = .returned (.bool true) from ⟨hp.1, hp.2.elim (fun t => t.2) (fun t => absurd ris t.1)⟩)))
  have RIS := hid_of ris
  have hL : L ≤ 4096 := by have := ris.len_le; omega
  have UC := hid_of (fun w' (K : Kept W1 w') => unevenR_calls N hN ao n cap es co L cc c w' (HE.out.kept (KWH.out.trans K)) (HJ.out.kept (KWH.out.trans K)) (fun j hj => RIS.out.rng hj) hL)
  have AL := hid_of (fun w' => allR_calls (N : Int) ao n cap hn w')
  have UD := hid_of (fun w' (K : Kept W1 w') qo qc (J : JRow w' qo n qc (allTo n)) => unevenR_calls N hN ao n cap es qo n qc (allTo n) w' (HE.out.kept (KWH.out.trans K)) J (fun j hj => by rw [allTo_at hj]; omega) hn)
  obtain ⟨z, hz⟩ : ∃ z : Bool, (unevTo (odTo es c L) N = unevAll es N n → z = true) ∧ (unevTo (odTo es c L) N ≠ unevAll es N n → z = false) := by
    by_cases he : unevTo (odTo es c L) N = unevAll es N n
    · exact ⟨true, fun _ => rfl, fun t => absurd he t⟩
    · exact ⟨false, fun t => absurd t he, fun _ => rfl⟩
  have HZ := hid_of hz
  have IC := hid_of (fun w' so len sc so2 len2 sc2 (J : JRow w' so len sc (unevTo (odTo es c L) N)) (J2 : JRow w' so2 len2 sc2 (unevAll es N n)) => intsR_calls so len sc _ so2 len2 sc2 _ z HZ.out.1 HZ.out.2 w' J J2)
  clear ris RC W0H W1H hz
  refine Ord.region [(0, 0), (1, 0), (2, 1), (3, 0), (4, 2), (5, 0), (6, 1), (7, 0), (9, 1), (10, 1), (8, 2), (11, 2), (12, 2), (13, 2), (14, 0), (15, 0)] (fun w' => Kept W1 w') (by kernel_rfl) (by kernel_rfl) (by kernel_rfl) (by kernel_rfl) (fun _ _ d _ _ h => by cases d <;> exact h) ((Kept.refl _).drewN _) ?_
  repeat
    refine Ord.step rfl (fun Ko hK => ?_)
    simp only [Ord.body]
    go_simp
    first
      | (refine hK _ _ ?_; clear hK Ko)
      | (refine ⟨_, fun w' hS => (by have c0 := hS.cell w0; have c1 := hS.cell w1; simp only [c0, c1, Result.andThen]; rfl), hK _ _ ?_⟩; clear hK Ko)
      | (go_at_call 54; refine (RC2.out _ ((Kept.refl _).drewN _)).mono ?_; clear RC2; rintro e w5 ⟨K5, rfl⟩; refine ⟨((Kept.refl _).drewN _).trans K5, hK _ _ ?_⟩; clear hK Ko)
      | (go_at_call 86; refine (UC.out _ (((Kept.refl _).drewN _).trans K5)).mono ?_; clear UC; rintro e w6 ⟨so, len, sc, rfl, JU, K6⟩; refine ⟨(((Kept.refl _).drewN _).trans K5).trans K6, hK _ _ ?_⟩; clear hK Ko)
      | (go_at_call 39; refine (AL.out _).mono ?_; clear AL; rintro e w7 ⟨qo, qc, rfl, JA, K7⟩; refine ⟨((((Kept.refl _).drewN _).trans K5).trans K6).trans K7, hK _ _ ?_⟩; clear hK Ko)
      | (go_at_call 86; refine (UD.out _ (((((Kept.refl _).drewN _).trans K5).trans K6).trans K7) _ _ JA).mono ?_; clear UD; rintro e w8 ⟨so2, len2, sc2, rfl, JV, K8⟩; refine ⟨(((((Kept.refl _).drewN _).trans K5).trans K6).trans K7).trans K8, hK _ _ ?_⟩; clear hK Ko)
      | (go_at_call 89; refine (IC.out _ _ _ _ _ _ _ ((JU.kept K7).kept K8) JV).mono ?_; clear IC; rintro e w9 ⟨rfl, K9⟩; refine ⟨((((((Kept.refl _).drewN _).trans K5).trans K6).trans K7).trans K8).trans K9, hK _ _ ?_⟩; clear hK Ko)
  refine Ord.done ?_
  have KN := hid_of (KWH.out.trans (((((((Kept.refl W1).drewN 1).trans K5).trans K6).trans K7).trans K8).trans K9))
  clear K5 K6 K7 K8 K9 w0 w1 JU JA JV
  go_wp2
  go_ret
  refine ⟨KN.out, ?_⟩
  by_cases he : unevTo (odTo es c L) N = unevAll es N n
  · exact .inl ⟨⟨RIS.out, he⟩, by rw [HZ.out.1 he]; rfl⟩
  · exact .inr ⟨fun t => he t.2, by rw [HZ.out.2 he]; rfl⟩
end Go.Proofs.YtpdppjngbbkbbaaDoor
namespace Go.Proofs.YtpdppjngbbkbbaaDoor
open Go.RowKit

/-- How many ends of pairs are at a node. -/
def cntE : List Ed → Nat → Int
  | [], _ => 0
  | e :: Q, v => (cntE Q v + if e.f = (v : Int) then 1 else 0) + if e.t = (v : Int) then 1 else 0
theorem cntE_cons (e : Ed) (Q : List Ed) (v : Nat) : cntE (e :: Q) v = (cntE Q v + if e.f = (v : Int) then 1 else 0) + if e.t = (v : Int) then 1 else 0 := rfl
theorem cntE_nn (Q : List Ed) (v : Nat) : 0 ≤ cntE Q v := by
  induction Q with
  | nil => exact Int.le_refl _
  | cons e Q ih => rw [cntE_cons]; split <;> split <;> omega
/-- What pairs may cost together. -/
def sumE : List Ed → Int
  | [] => 0
  | e :: Q => sumE Q + e.k
theorem sumE_cons (e : Ed) (Q : List Ed) : sumE (e :: Q) = sumE Q + e.k := rfl
/-- No row parts two nodes by more. -/
def Part (ds : List (List Int)) (nd : Nat) (a b c : Int) : Prop := 0 ≤ c ∧ ∀ i, i < nd → -c ≤ zAt (rowAt ds i) a.toNat - zAt (rowAt ds i) b.toNat ∧ zAt (rowAt ds i) a.toNat - zAt (rowAt ds i) b.toNat ≤ c
theorem Part.symm {ds : List (List Int)} {nd : Nat} {a b c : Int} (h : Part ds nd a b c) : Part ds nd b a c := ⟨h.1, fun i hi => by have := h.2 i hi; omega⟩
theorem Part.trans {ds : List (List Int)} {nd : Nat} {a b x c d : Int} (h : Part ds nd a b c) (g : Part ds nd b x d) : Part ds nd a x (c + d) := ⟨by have := h.1; have := g.1; omega, fun i hi => by have := h.2 i hi; have := g.2 i hi; omega⟩
/-- Right pairs. -/
def PrOk (ds : List (List Int)) (nd N : Nat) (Q : List Ed) : Prop := ∀ e ∈ Q, (0 ≤ e.f ∧ e.f < (N : Int)) ∧ (0 ≤ e.t ∧ e.t < (N : Int)) ∧ e.f ≠ e.t ∧ Part ds nd e.f e.t e.k
def ones1 (p : Nat → Bool) (v : Nat) : Int := if p v then 1 else 0

theorem take_out {ds : List (List Int)} {nd N : Nat} (a : Int) (ha : 0 ≤ a) : ∀ {Q : List Ed}, PrOk ds nd N Q → 1 ≤ cntE Q a.toNat → ∃ x w Q0, PrOk ds nd N (⟨a, x, 0, w⟩ :: Q0) ∧ (∀ v, cntE Q v = cntE (⟨a, x, 0, w⟩ :: Q0) v) ∧ sumE Q = sumE (⟨a, x, 0, w⟩ :: Q0) := by
  intro Q
  induction Q with
  | nil => intro _ h; simp [cntE] at h
  | cons e Q ih =>
    intro ok h
    obtain ⟨e1, e2, e3, e4⟩ := ok e List.mem_cons_self
    have okQ : PrOk ds nd N Q := fun x hx => ok x (List.mem_cons_of_mem _ hx)
    by_cases hf : e.f = a
    · refine ⟨e.t, e.k, Q, fun x hx => ?_, fun v => ?_, rfl⟩
      · rcases List.mem_cons.1 hx with rfl | hx
        · rw [hf] at e1 e3 e4; exact ⟨e1, e2, e3, e4⟩
        · exact okQ x hx
      · rw [cntE_cons, cntE_cons, hf]
    · by_cases ht : e.t = a
      · refine ⟨e.f, e.k, Q, fun x hx => ?_, fun v => ?_, rfl⟩
        · rcases List.mem_cons.1 hx with rfl | hx
          · rw [ht] at e2 e3 e4; exact ⟨e2, e1, fun t => e3 t.symm, e4.symm⟩
          · exact okQ x hx
        · rw [cntE_cons, cntE_cons, ht]; simp only; omega
      · rw [cntE_cons, if_neg (by omega), if_neg (by omega)] at h
        obtain ⟨x, w, Q0, g1, g2, g3⟩ := ih okQ (by omega)
        refine ⟨x, w, e :: Q0, fun y hy => ?_, fun v => ?_, ?_⟩
        · rcases List.mem_cons.1 hy with rfl | hy
          · exact g1 _ List.mem_cons_self
          · rcases List.mem_cons.1 hy with rfl | hy
            · exact ok _ List.mem_cons_self
            · exact g1 y (List.mem_cons_of_mem _ hy)
        · rw [cntE_cons, g2 v, cntE_cons, cntE_cons, cntE_cons]; omega
        · rw [sumE_cons, g3, sumE_cons, sumE_cons, sumE_cons]; simp only; omega

theorem flip_eq {p : Nat → Bool} {a b : Int} (v : Nat) : ones1 (flip (flip p a) b) v = if a = (v : Int) then (if b = (v : Int) then ones1 p v else 1 - ones1 p v) else if b = (v : Int) then 1 - ones1 p v else ones1 p v := by
  unfold ones1 flip
  cases h : p v <;> by_cases h1 : a = (v : Int) <;> by_cases h2 : b = (v : Int) <;> simp [h1, h2]

/-- One more edge. -/
theorem pairs_step {ds : List (List Int)} {nd N : Nat} {Q : List Ed} {p : Nat → Bool} (ok : PrOk ds nd N Q) (hc : ∀ v, cntE Q v = ones1 p v) {a b c : Int} (ha : 0 ≤ a ∧ a < (N : Int)) (hb : 0 ≤ b ∧ b < (N : Int)) (hp : Part ds nd a b c) :
    ∃ Q', PrOk ds nd N Q' ∧ (∀ v, cntE Q' v = ones1 (flip (flip p a) b) v) ∧ sumE Q' ≤ sumE Q + c := by
  have hc0 := hp.1
  by_cases hab : a = b
  · subst hab
    refine ⟨Q, ok, fun v => ?_, by omega⟩
    rw [hc, flip_eq]; split <;> rfl
  have ea : ((a.toNat : Nat) : Int) = a := by omega
  have eb : ((b.toNat : Nat) : Int) = b := by omega
  have ca := hc a.toNat
  have cb := hc b.toNat
  cases pa : p a.toNat with
  | false =>
    have pa' : ones1 p a.toNat = 0 := by unfold ones1; rw [pa]; rfl
    cases pb : p b.toNat with
    | false =>
      have pb' : ones1 p b.toNat = 0 := by unfold ones1; rw [pb]; rfl
      refine ⟨⟨a, b, 0, c⟩ :: Q, fun x hx => ?_, fun v => ?_, by rw [sumE_cons]; simp only; omega⟩
      · rcases List.mem_cons.1 hx with rfl | hx
        · exact ⟨ha, hb, hab, hp⟩
        · exact ok x hx
      · rw [cntE_cons, hc, flip_eq]
        simp only
        by_cases h1 : a = (v : Int)
        · have : v = a.toNat := by omega
          subst this
          rw [if_pos h1, if_neg (by omega), if_pos h1, if_neg (by omega)]; omega
        · by_cases h2 : b = (v : Int)
          · have : v = b.toNat := by omega
            subst this
            rw [if_neg h1, if_pos h2, if_neg h1, if_pos h2]; omega
          · rw [if_neg h1, if_neg h2, if_neg h1, if_neg h2]; omega
    | true =>
      have pb' : ones1 p b.toNat = 1 := by unfold ones1; rw [pb]; rfl
      obtain ⟨x, w, Q0, g1, g2, g3⟩ := take_out b hb.1 ok (by omega)
      obtain ⟨-, k2, k3, k4⟩ := g1 _ List.mem_cons_self
      simp only at k2 k3 k4
      have xa : x ≠ a := fun t => by
        have := g2 a.toNat
        rw [cntE_cons] at this
        simp only at this
        have nn := cntE_nn Q0 a.toNat
        rw [if_neg (by omega), if_pos (by omega)] at this
        omega
      refine ⟨⟨a, x, 0, c + w⟩ :: Q0, fun y hy => ?_, fun v => ?_, ?_⟩
      · rcases List.mem_cons.1 hy with rfl | hy
        · exact ⟨ha, k2, fun t => xa t.symm, hp.trans k4⟩
        · exact g1 y (List.mem_cons_of_mem _ hy)
      · have gv := g2 v
        have hv := hc v
        rw [cntE_cons] at gv ⊢
        simp only at gv ⊢
        rw [flip_eq]
        by_cases h1 : a = (v : Int)
        · have : v = a.toNat := by omega
          subst this
          rw [if_neg (by omega), if_neg (by omega)] at gv
          rw [if_pos h1, if_neg (by omega), if_pos h1, if_neg (by omega)]; omega
        · by_cases h2 : b = (v : Int)
          · have : v = b.toNat := by omega
            subst this
            rw [if_pos h2, if_neg (by omega)] at gv
            rw [if_neg h1, if_neg (by omega), if_neg h1, if_pos h2]; omega
          · rw [if_neg h2] at gv
            rw [if_neg h1, if_neg h1, if_neg h2]; omega
      · rw [g3, sumE_cons, sumE_cons]; simp only; omega
  | true =>
    have pa' : ones1 p a.toNat = 1 := by unfold ones1; rw [pa]; rfl
    obtain ⟨x, w, Q0, g1, g2, g3⟩ := take_out a ha.1 ok (by omega)
    obtain ⟨-, k2, k3, k4⟩ := g1 _ List.mem_cons_self
    simp only at k2 k3 k4
    have w0 := k4.1
    have okQ0 : PrOk ds nd N Q0 := fun y hy => g1 y (List.mem_cons_of_mem _ hy)
    cases pb : p b.toNat with
    | false =>
      have pb' : ones1 p b.toNat = 0 := by unfold ones1; rw [pb]; rfl
      have xb : x ≠ b := fun t => by
        have := g2 b.toNat
        rw [cntE_cons] at this
        simp only at this
        have nn := cntE_nn Q0 b.toNat
        rw [if_neg (by omega), if_pos (by omega)] at this
        omega
      refine ⟨⟨b, x, 0, c + w⟩ :: Q0, fun y hy => ?_, fun v => ?_, ?_⟩
      · rcases List.mem_cons.1 hy with rfl | hy
        · exact ⟨hb, k2, fun t => xb t.symm, hp.symm.trans k4⟩
        · exact okQ0 y hy
      · have gv := g2 v
        have hv := hc v
        rw [cntE_cons] at gv ⊢
        simp only at gv ⊢
        rw [flip_eq]
        by_cases h1 : a = (v : Int)
        · have : v = a.toNat := by omega
          subst this
          rw [if_pos h1, if_neg (by omega)] at gv
          rw [if_neg (by omega), if_neg (by omega), if_pos h1, if_neg (by omega)]; omega
        · by_cases h2 : b = (v : Int)
          · have : v = b.toNat := by omega
            subst this
            rw [if_neg h1, if_neg (by omega)] at gv
            rw [if_pos h2, if_neg (by omega), if_neg h1, if_pos h2]; omega
          · rw [if_neg h1] at gv
            rw [if_neg h2, if_neg h1, if_neg h2]; omega
      · rw [g3, sumE_cons, sumE_cons]; simp only; omega
    | true =>
      have pb' : ones1 p b.toNat = 1 := by unfold ones1; rw [pb]; rfl
      by_cases xb : x = b
      · subst xb
        refine ⟨Q0, okQ0, fun v => ?_, ?_⟩
        · have gv := g2 v
          have hv := hc v
          rw [cntE_cons] at gv
          simp only at gv
          rw [flip_eq]
          by_cases h1 : a = (v : Int)
          · have : v = a.toNat := by omega
            subst this
            rw [if_pos h1, if_neg (by omega)] at gv
            rw [if_pos h1, if_neg (by omega)]; omega
          · by_cases h2 : x = (v : Int)
            · have : v = x.toNat := by omega
              subst this
              rw [if_neg h1, if_pos h2] at gv
              rw [if_neg h1, if_pos h2]; omega
            · rw [if_neg h1, if_neg h2] at gv
              rw [if_neg h1, if_neg h2]; omega
        · rw [g3, sumE_cons]; simp only; omega
      · have cQ0 : cntE Q0 b.toNat = 1 := by
          have gv := g2 b.toNat
          rw [cntE_cons] at gv
          simp only at gv
          rw [if_neg (by omega), if_neg (by omega)] at gv
          omega
        obtain ⟨y, w2, Q1, f1, f2, f3⟩ := take_out b hb.1 okQ0 (by omega)
        obtain ⟨-, l2, l3, l4⟩ := f1 _ List.mem_cons_self
        simp only at l2 l3 l4
        have ex : ((x.toNat : Nat) : Int) = x := by omega
        have xy : x ≠ y := fun t => by
          have gx := g2 x.toNat
          have fx := f2 x.toNat
          have hx := hc x.toNat
          rw [cntE_cons] at gx fx
          simp only at gx fx
          have nn := cntE_nn Q1 x.toNat
          rw [if_neg (show ¬ a = ((x.toNat : Nat) : Int) by omega), if_pos (show x = ((x.toNat : Nat) : Int) by omega)] at gx
          rw [if_neg (show ¬ b = ((x.toNat : Nat) : Int) by omega), if_pos (show y = ((x.toNat : Nat) : Int) by omega)] at fx
          have : ones1 p x.toNat ≤ 1 := by unfold ones1; split <;> omega
          omega
        refine ⟨⟨x, y, 0, w + c + w2⟩ :: Q1, fun z hz => ?_, fun v => ?_, ?_⟩
        · rcases List.mem_cons.1 hz with rfl | hz
          · exact ⟨k2, l2, xy, (k4.symm.trans hp).trans l4⟩
          · exact f1 z (List.mem_cons_of_mem _ hz)
        · have gv := g2 v
          have fv := f2 v
          have hv := hc v
          rw [cntE_cons] at gv fv ⊢
          simp only at gv fv ⊢
          rw [flip_eq]
          by_cases h1 : a = (v : Int)
          · have : v = a.toNat := by omega
            subst this
            rw [if_pos h1] at gv
            rw [if_neg (show ¬ b = ((a.toNat : Nat) : Int) by omega)] at fv
            rw [if_pos h1, if_neg (show ¬ b = ((a.toNat : Nat) : Int) by omega)]; omega
          · by_cases h2 : b = (v : Int)
            · have : v = b.toNat := by omega
              subst this
              rw [if_neg h1] at gv
              rw [if_pos h2] at fv
              rw [if_neg h1, if_pos h2]; omega
            · rw [if_neg h1] at gv
              rw [if_neg h2] at fv
              rw [if_neg h1, if_neg h2]; omega
        · rw [g3, sumE_cons, sumE_cons, f3, sumE_cons]; simp only; omega

/-- Edges are no cheaper than pairs of the nodes at which they are uneven. -/
theorem pairs_of {es : List Ed} {N n : Nat} (he : EndsIn es N n) (hm : NoMinus es n) {ds : List (List Int)} {nd : Nat} (hn : ∀ i, i < nd → ∀ j, j < n → NearE es (rowAt ds i) j) {o : List Int} {lo : Nat} (ris : RiseTo o (n : Int) lo) : ∀ k, k ≤ lo → ∃ Q, PrOk ds nd N Q ∧ (∀ v, cntE Q v = ones1 (odTo es o k) v) ∧ sumE Q ≤ csum es o k := by
  intro k
  induction k with
  | zero => intro _; exact ⟨[], (fun _ h => by cases h), fun v => rfl, Int.le_refl _⟩
  | succ k ih =>
    intro hk
    obtain ⟨Q, q1, q2, q3⟩ := ih (by omega)
    obtain ⟨r1, r2⟩ := ris.rng (j := k) (by omega)
    obtain ⟨e1, e2, e3, e4⟩ := he (zAt o k).toNat (by omega)
    obtain ⟨Q', g1, g2, g3⟩ := pairs_step q1 q2 (a := frm es o k) (b := tto es o k) (c := (edAt es (zAt o k).toNat).k) ⟨e1, e2⟩ ⟨e3, e4⟩ ⟨hm _ (by omega), fun i hi => hn i hi _ (by omega)⟩
    refine ⟨Q', g1, fun v => by rw [odTo_succ]; exact g2 v, ?_⟩
    rw [csum_succ]; omega

/-- The place of a number among those that are so. -/
def plcU (p : Nat → Bool) (v : Nat) : Nat := (unevTo p v).length
theorem uneven_at (p : Nat → Bool) {v : Nat} (hp : p v = true) : ∀ N, v < N → plcU p v < (unevTo p N).length ∧ zAt (unevTo p N) (plcU p v) = (v : Int) := by
  intro N
  induction N with
  | zero => intro h; omega
  | succ N ih =>
    intro h
    rw [unevTo_succ]
    by_cases e : v = N
    · subst e
      rw [if_pos hp]
      refine ⟨by simp [plcU], ?_⟩
      simp [plcU, zAt, List.getD]
    · obtain ⟨i1, i2⟩ := ih (by omega)
      split
      · refine ⟨by simp; omega, ?_⟩
        rw [← i2]
        simp [zAt, List.getD, List.getElem?_append_left i1]
      · exact ⟨i1, i2⟩
theorem uneven_len (p : Nat → Bool) (N : Nat) : ((unevTo p N).length : Int) = sm (ones1 p) N := by
  induction N with
  | zero => rfl
  | succ N ih =>
    rw [unevTo_succ, sm_succ, ← ih]
    unfold ones1
    split
    · rw [List.length_append]; simp
    · omega

theorem sm_shift (f : Nat → Int) (k : Nat) : sm f (k + 1) = f 0 + sm (fun i => f (i + 1)) k := by
  induction k with
  | zero => simp [sm]
  | succ k ih => rw [sm_succ, ih, sm_succ]; omega
theorem edAt_memE {es : List Ed} {j : Nat} (h : j < es.length) : edAt es j ∈ es := by
  unfold edAt
  rw [List.getD_eq_getElem?_getD, List.getElem?_eq_getElem h]
  exact List.getElem_mem h
theorem cntE_sm (Q : List Ed) (v : Nat) : cntE Q v = sm (fun j => (if (edAt Q j).f = (v : Int) then 1 else 0) + (if (edAt Q j).t = (v : Int) then 1 else 0)) Q.length := by
  induction Q with
  | nil => rfl
  | cons e Q ih =>
    rw [cntE_cons, ih, List.length_cons, sm_shift]
    show _ = ((if e.f = (v : Int) then 1 else 0) + (if e.t = (v : Int) then 1 else 0)) + sm (fun j => (if (edAt Q j).f = (v : Int) then 1 else 0) + (if (edAt Q j).t = (v : Int) then 1 else 0)) Q.length
    omega
theorem sumE_sm (Q : List Ed) : sumE Q = sm (fun j => (edAt Q j).k) Q.length := by
  induction Q with
  | nil => rfl
  | cons e Q ih =>
    rw [sumE_cons, ih, List.length_cons, sm_shift]
    show _ = e.k + sm (fun j => (edAt Q j).k) Q.length
    omega
theorem tak_all (Q : List Ed) (v : Nat) : ∀ k, k ≤ Q.length → takTo Q (allTo Q.length) k v = sm (fun j => (if (edAt Q j).f = (v : Int) then 1 else 0) + (if (edAt Q j).t = (v : Int) then 1 else 0)) k := by
  intro k
  induction k with
  | zero => intro _; rfl
  | succ k ih =>
    intro hk
    have ef : frm Q (allTo Q.length) k = (edAt Q k).f := by unfold frm; rw [allTo_at (by omega), Int.toNat_natCast]
    have et : tto Q (allTo Q.length) k = (edAt Q k).t := by unfold tto; rw [allTo_at (by omega), Int.toNat_natCast]
    rw [takTo_succ, sm_succ, ih (by omega), ef, et]; omega
theorem csum_all (Q : List Ed) : csum Q (allTo Q.length) Q.length = sumE Q := by
  rw [sumE_sm]
  unfold csum
  exact sm_congr fun j hj => by rw [allTo_at hj, Int.toNat_natCast]
theorem rise_all (n : Nat) : ∀ k, k ≤ n → RiseTo (allTo n) (n : Int) k := fun k hk j hj => by
  rw [allTo_at (by omega)]
  refine ⟨?_, by omega⟩
  cases j with
  | zero => simp only [lastOf]; omega
  | succ j => simp only [lastOf]; rw [allTo_at (by omega)]; omega

/-- Pairs of nodes as pairs of places. -/
def toPlc (p : Nat → Bool) (e : Ed) : Ed := ⟨(plcU p e.f.toNat : Nat), (plcU p e.t.toNat : Nat), 0, e.k⟩
theorem sum_plc (p : Nat → Bool) (Q : List Ed) : sumE (Q.map (toPlc p)) = sumE Q := by
  induction Q with
  | nil => rfl
  | cons e Q ih => rw [List.map_cons, sumE_cons, sumE_cons, ih]; rfl
theorem plc_inj {p : Nat → Bool} {v u : Nat} (hv : p v = true) (hu : p u = true) (e : plcU p v = plcU p u) : v = u := by
  have a := (uneven_at p hv (v + u + 1) (by omega)).2
  have b := (uneven_at p hu (v + u + 1) (by omega)).2
  rw [e, b] at a
  omega
theorem cnt_plc {p : Nat → Bool} {Q : List Ed} (hQ : ∀ e ∈ Q, (0 ≤ e.f ∧ p e.f.toNat = true) ∧ (0 ≤ e.t ∧ p e.t.toNat = true)) {a : Nat} (ha : p a = true) : cntE (Q.map (toPlc p)) (plcU p a) = cntE Q a := by
  induction Q with
  | nil => rfl
  | cons e Q ih =>
    rw [List.map_cons, cntE_cons, cntE_cons, ih (fun x hx => hQ x (List.mem_cons_of_mem _ hx))]
    obtain ⟨⟨f0, f1⟩, t0, t1⟩ := hQ e List.mem_cons_self
    have ef : (((plcU p e.f.toNat : Nat) : Int) = ((plcU p a : Nat) : Int)) ↔ e.f = (a : Int) := ⟨fun h => by have := plc_inj f1 ha (by omega); omega, fun h => by rw [h]; simp⟩
    have et : (((plcU p e.t.toNat : Nat) : Int) = ((plcU p a : Nat) : Int)) ↔ e.t = (a : Int) := ⟨fun h => by have := plc_inj t1 ha (by omega); omega, fun h => by rw [h]; simp⟩
    simp only [toPlc, ef, et]
theorem cnt_plc0 {p : Nat → Bool} {i : Nat} {Q : List Ed} (hQ : ∀ e ∈ Q, plcU p e.f.toNat ≠ i ∧ plcU p e.t.toNat ≠ i) : cntE (Q.map (toPlc p)) i = 0 := by
  induction Q with
  | nil => rfl
  | cons e Q ih =>
    rw [List.map_cons, cntE_cons, ih (fun x hx => hQ x (List.mem_cons_of_mem _ hx))]
    obtain ⟨f1, t1⟩ := hQ e List.mem_cons_self
    have g1 : ¬ (toPlc p e).f = (i : Int) := fun t => by
      have t : ((plcU p e.f.toNat : Nat) : Int) = (i : Int) := t
      omega
    have g2 : ¬ (toPlc p e).t = (i : Int) := fun t => by
      have t : ((plcU p e.t.toNat : Nat) : Int) = (i : Int) := t
      omega
    rw [if_neg g1, if_neg g2]; rfl

theorem cnt_total {N : Nat} : ∀ {Q : List Ed}, (∀ e ∈ Q, (0 ≤ e.f ∧ e.f < (N : Int)) ∧ (0 ≤ e.t ∧ e.t < (N : Int))) → sm (cntE Q) N = 2 * (Q.length : Int) := by
  intro Q
  induction Q with
  | nil =>
    intro _
    have : sm (cntE []) N = sm (fun _ => 0) N := sm_congr fun v _ => rfl
    rw [this, sm_zero]; rfl
  | cons e Q ih =>
    intro h
    obtain ⟨⟨f0, f1⟩, t0, t1⟩ := h e List.mem_cons_self
    have st : sm (cntE (e :: Q)) N = (sm (cntE Q) N + sm (fun v => if e.f = (v : Int) then 1 else 0) N) + sm (fun v => if e.t = (v : Int) then 1 else 0) N := by
      rw [← sm_add, ← sm_add]
      exact sm_congr fun v _ => rfl
    rw [st, ih (fun x hx => h x (List.mem_cons_of_mem _ hx)), sm_pick (fun _ => 1) e.f N f0 f1, sm_pick (fun _ => 1) e.t N t0 t1, List.length_cons]
    omega

theorem pairOf_symm (Y : List Int) (ss : Sets) (ns u v : Nat) : pairOf Y ss ns u v = pairOf Y ss ns v u := by
  unfold pairOf
  rw [Int.add_comm]
  congr 1
  refine sm_congr fun i _ => ?_
  rw [Bool.and_comm]

/-- What Doubled proves: no other edges that make all even cost less. -/
theorem even_le {es : List Ed} {N n : Nat} (RG : Right N n es) (hm : NoMinus es n) {m : List Int} {lm : Nat} {ds : List (List Int)} {nd : Nat} {Y : List Int} {my : Nat} {ss : Sets} {ns : Nat} (hD : DblOk es N n m lm ds nd Y my ss ns) {o : List Int} {lo : Nat} (hO : EvOk es N n o lo) : csum es m lm ≤ csum es o lo := by
  obtain ⟨-, -, ⟨hnd, hrow⟩, hW, hP, hworth⟩ := hD
  obtain ⟨ris, hun⟩ := hO
  obtain ⟨Q, q1, q2, q3⟩ := pairs_of RG.ends hm (ds := ds) (nd := nd) (fun i hi j hj => (hrow i hi).2.2 j hj) ris lo (Nat.le_refl _)
  obtain ⟨p, hp⟩ : ∃ p, odTo es o lo = p := ⟨_, rfl⟩
  rw [hp] at q2 hun
  rw [← hun] at hnd hrow hW hP
  obtain ⟨nu, hnu⟩ : ∃ nu, (unevTo p N).length = nu := ⟨_, rfl⟩
  rw [hnu] at hnd hW hP
  subst hnd
  have my1 : my = nd := hW.1.1
  subst my1
  -- each end of a pair is uneven
  have endp : ∀ e ∈ Q, (0 ≤ e.f ∧ p e.f.toNat = true) ∧ (0 ≤ e.t ∧ p e.t.toNat = true) := by
    have key : ∀ (Q : List Ed), (∀ e ∈ Q, 0 ≤ e.f ∧ 0 ≤ e.t) → ∀ e ∈ Q, 1 ≤ cntE Q e.f.toNat ∧ 1 ≤ cntE Q e.t.toNat := by
      intro Q
      induction Q with
      | nil => intro _ e he; cases he
      | cons x Q ih =>
        intro h e he
        obtain ⟨x1, x2⟩ := h x List.mem_cons_self
        rw [cntE_cons, cntE_cons]
        rcases List.mem_cons.1 he with rfl | he
        · have a := cntE_nn Q e.f.toNat
          have b := cntE_nn Q e.t.toNat
          rw [if_pos (show e.f = ((e.f.toNat : Nat) : Int) by omega), if_pos (show e.t = ((e.t.toNat : Nat) : Int) by omega)]
          constructor
          · split <;> omega
          · split <;> omega
        · obtain ⟨a, b⟩ := ih (fun y hy => h y (List.mem_cons_of_mem _ hy)) e he
          constructor
          · split <;> split <;> omega
          · split <;> split <;> omega
    intro e he
    obtain ⟨a, b⟩ := key Q (fun e he => ⟨(q1 e he).1.1, (q1 e he).2.1.1⟩) e he
    rw [q2] at a b
    unfold ones1 at a b
    refine ⟨⟨(q1 e he).1.1, ?_⟩, (q1 e he).2.1.1, ?_⟩
    · cases h : p e.f.toNat with
      | true => rfl
      | false => rw [h] at a; simp at a
    · cases h : p e.t.toNat with
      | true => rfl
      | false => rw [h] at b; simp at b
  obtain ⟨R, hR⟩ : ∃ R, Q.map (toPlc p) = R := ⟨_, rfl⟩
  have lenR : R.length = Q.length := by rw [← hR, List.length_map]
  have at_ : ∀ j, j < R.length → ∃ e ∈ Q, edAt R j = toPlc p e := fun j hj => by
    have := edAt_memE hj
    rw [← hR] at this
    obtain ⟨e, he, t⟩ := List.mem_map.1 this
    exact ⟨e, he, by rw [← hR]; exact t.symm⟩
  have plt : ∀ v, p v = true → v < N → plcU p v < my := fun v hv hN => by rw [← hnu]; exact (uneven_at p hv N hN).1
  have ends : EndsIn R my R.length := fun j hj => by
    obtain ⟨e, he, t⟩ := at_ j hj
    obtain ⟨⟨a0, a1⟩, b0, b1⟩ := endp e he
    obtain ⟨c1, c2, -, -⟩ := q1 e he
    have x := plt _ a1 (by omega)
    have y := plt _ b1 (by omega)
    rw [t]
    simp only [toPlc]
    omega
  have tot : 2 * R.length = my := by
    have a := cnt_total (N := N) (Q := Q) (fun e he => ⟨(q1 e he).1, (q1 e he).2.1⟩)
    have b := uneven_len p N
    have c : sm (cntE Q) N = sm (ones1 p) N := sm_congr fun v _ => q2 v
    rw [lenR]
    omega
  have cnt1 : ∀ i, cntE R i ≤ 1 := fun i => by
    by_cases h : ∃ a, p a = true ∧ plcU p a = i
    · obtain ⟨a, ha, rfl⟩ := h
      rw [← hR, cnt_plc endp ha, q2]
      unfold ones1
      split <;> omega
    · rw [← hR, cnt_plc0 (fun e he => ⟨fun t => h ⟨_, (endp e he).1.2, t⟩, fun t => h ⟨_, (endp e he).2.2, t⟩⟩)]
      omega
  have ok : MatchOk R R.length (allTo R.length) R.length := by
    refine (tak_one (n := R.length) (N := my) ends).1 ⟨rise_all _ _ (Nat.le_refl _), fun j hj => ?_, fun v hv => ?_⟩
    · obtain ⟨e, he, t⟩ := at_ j hj
      unfold frm tto
      rw [allTo_at hj, Int.toNat_natCast, t]
      simp only [toPlc]
      intro h
      have := plc_inj (endp e he).1.2 (endp e he).2.2 (by omega)
      have c := q1 e he
      exact c.2.2.1 (by omega)
    · rw [tak_all _ _ _ (Nat.le_refl _), ← cntE_sm, onesTo_at hv]
      exact cnt1 v
  have prs : ∀ j, j < R.length → lp R j = true ∨ pairOf Y ss ns (edAt R j).f.toNat (edAt R j).t.toNat ≤ 2 * (edAt R j).k := fun j hj => by
    right
    obtain ⟨e, he, t⟩ := at_ j hj
    obtain ⟨⟨a0, a1⟩, b0, b1⟩ := endp e he
    obtain ⟨c1, c2, c3, c4⟩ := q1 e he
    have x := plt _ a1 (by omega)
    have y := plt _ b1 (by omega)
    have ux := (uneven_at p a1 N (by omega)).2
    have uy := (uneven_at p b1 N (by omega)).2
    rw [t]
    simp only [toPlc, Int.toNat_natCast]
    rcases Nat.lt_trichotomy (plcU p e.f.toNat) (plcU p e.t.toNat) with l | l | l
    · have b := hP _ y _ l
      unfold Within at b
      rw [uy, Int.toNat_natCast] at b
      have z := (hrow _ x).2.1
      rw [ux, Int.toNat_natCast] at z
      have d := c4.2 _ x
      omega
    · exact absurd (plc_inj a1 b1 l) (by omega)
    · have b := hP _ x _ l
      unfold Within at b
      rw [ux, Int.toNat_natCast, pairOf_symm] at b
      have z := (hrow _ y).2.1
      rw [uy, Int.toNat_natCast] at z
      have d := c4.2 _ y
      omega
  have fin := dual_le ends hW prs ok tot
  rw [csum_all, ← hR, sum_plc] at fin
  omega
end Go.Proofs.YtpdppjngbbkbbaaDoor
