/- ScaleTotal: the walk of the law. -/
import Derived.Test.YtikmollocchfnacTotalA
namespace Go.Proofs.Ytikmollocchfnac
open Go.RowKit

theorem cmp_one_two : Dg.cmp (fkey 4607182418800017408) (fkey 4611686018427387904) = -1 := by decide
theorem cmp_zeros : Dg.cmp (fkey 9223372036854775808) (fkey 0) = -1 := by decide

theorem strict_one (w : World) : Calls Try.prog 9 #[.float .f64 4607182418800017408, .float .f64 4611686018427387904] w fun e w' => e = .returned (.int .i64 (-1)) ∧ w = w' := by
  have := strict_calls 4607182418800017408 4611686018427387904 (by omega) (by omega) w
  rw [cmp_one_two] at this
  exact this
theorem strict_zeros (w : World) : Calls Try.prog 9 #[.float .f64 9223372036854775808, .float .f64 0] w fun e w' => e = .returned (.int .i64 (-1)) ∧ w = w' := by
  have := strict_calls 9223372036854775808 0 (by omega) (by omega) w
  rw [cmp_zeros] at this
  exact this

theorem strict_as (x y : Nat) (hx : x < 18446744073709551616) (hy : y < 18446744073709551616) (r : Int) (h : Dg.cmp (fkey x) (fkey y) = r) : Hid (∀ w : World, Calls Try.prog 9 #[.float .f64 x, .float .f64 y] w fun e w' => e = .returned (.int .i64 r) ∧ w = w') := by
  subst h
  exact fun w => strict_calls x y hx hy w

theorem cmp_three (p q r : Int) : Dg.cmp p q ≤ 0 → Dg.cmp q r ≤ 0 → Dg.cmp p r ≤ 0 := by
  unfold Dg.cmp
  intro h1 h2
  split at h1 <;> (try split at h1) <;> split at h2 <;> (try split at h2) <;> split <;> (try split) <;> omega
theorem cmp_back (p q : Int) : Dg.cmp q p = -Dg.cmp p q := by unfold Dg.cmp; split <;> split <;> (try split) <;> omega
theorem cmp_minus (p q : Int) : Dg.cmp (-q - 1) (-p - 1) = Dg.cmp p q := by unfold Dg.cmp; split <;> split <;> (try split) <;> (try split) <;> omega

/-- What the last lines ask, of two labels that are numbers. -/
theorem total_nums (a b : Nat) (ha : a < 18446744073709551616) (hb : b < 18446744073709551616) (na : ¬ Fl.nan a) (nb : ¬ Fl.nan b) :
    (Dg.cmp (fkey a) (fkey b) = 0 ↔ a = b) ∧ (Fl.sr a < Fl.sr b ↔ (Dg.cmp (fkey a) (fkey b) < 0 ∧ Fl.sr a ≠ Fl.sr b)) := by
  have hA := (key_facts a ha).resolve_left (fun h => na h.1)
  have hB := (key_facts b hb).resolve_left (fun h => nb h.1)
  have e0 : Dg.cmp (fkey a) (fkey b) = 0 ↔ fkey a = fkey b := by unfold Dg.cmp; split <;> (try split) <;> omega
  have e1 : Dg.cmp (fkey a) (fkey b) < 0 ↔ fkey a < fkey b := by unfold Dg.cmp; split <;> (try split) <;> omega
  rw [e0, e1]
  refine ⟨?_, by omega⟩
  constructor
  · intro h
    unfold fkey fneg at h
    rw [if_neg na, if_neg nb] at h
    by_cases c1 : 9223372036854775808 ≤ a <;> by_cases c2 : 9223372036854775808 ≤ b <;> simp [c1, c2] at h <;> omega
  · rintro rfl; rfl

theorem total_nans (a b : Nat) (ha : a < 18446744073709551616) (hb : b < 18446744073709551616) (h : Fl.nan a ∨ Fl.nan b) : Dg.cmp (fkey a) (fkey b) = 0 ↔ (Fl.nan a ∧ Fl.nan b) := by
  have e0 : Dg.cmp (fkey a) (fkey b) = 0 ↔ fkey a = fkey b := by unfold Dg.cmp; split <;> (try split) <;> omega
  rw [e0]
  have hA := key_facts a ha
  have hB := key_facts b hb
  by_cases na : Fl.nan a
  · by_cases nb : Fl.nan b
    · have hA' := hA.resolve_right (by rintro (⟨h, _⟩ | ⟨h, _⟩) <;> exact h na)
      have hB' := hB.resolve_right (by rintro (⟨h, _⟩ | ⟨h, _⟩) <;> exact h nb)
      exact ⟨fun _ => ⟨na, nb⟩, fun _ => by omega⟩
    · have hA' := hA.resolve_right (by rintro (⟨h, _⟩ | ⟨h, _⟩) <;> exact h na)
      have hB' := hB.resolve_left (fun h => nb h.1)
      exact ⟨fun h => absurd h (by omega), fun h => absurd h.2 nb⟩
  · have nb : Fl.nan b := h.resolve_left na
    have hA' := hA.resolve_left (fun h => na h.1)
    have hB' := hB.resolve_right (by rintro (⟨h, _⟩ | ⟨h, _⟩) <;> exact h nb)
    exact ⟨fun h => absurd h (by omega), fun h => absurd h.1 na⟩

set_option maxRecDepth 100000 in
set_option linter.unusedSimpArgs false in
set_option maxHeartbeats 4000000 in
theorem scaleTotalWalk (a b c : Nat) (ha : a < 18446744073709551616) (hb : b < 18446744073709551616) (hc : c < 18446744073709551616) (w : World) :
    Calls Try.prog 3 #[.int .u64 (a : Int), .int .u64 (b : Int), .int .u64 (c : Int)] w fun e w' => e = .returned (.bool true) ∧ w = w' := by
  obtain ⟨x, ex⟩ : ∃ x, Dg.cmp (fkey a) (fkey b) = x := ⟨_, rfl⟩
  obtain ⟨y, ey⟩ : ∃ y, Dg.cmp (fkey b) (fkey c) = y := ⟨_, rfl⟩
  obtain ⟨z, ez⟩ : ∃ z, Dg.cmp (fkey a) (fkey c) = z := ⟨_, rfl⟩
  have Cab := strict_as a b ha hb x ex
  have Cbc := strict_as b c hb hc y ey
  have Cac := strict_as a c ha hc z ez
  have Cba := strict_as b a hb ha (-x) (by rw [cmp_back, ex])
  have x1 : -1 ≤ x := by have := Dg.cmp_bd (fkey a) (fkey b); omega
  have x2 : x ≤ 1 := by have := Dg.cmp_bd (fkey a) (fkey b); omega
  have HT : Hid (x ≤ 0 → y ≤ 0 → z ≤ 0) := by have := cmp_three (fkey a) (fkey b) (fkey c); rw [ex, ey, ez] at this; exact this
  have EX := hid_of ex
  clear ex ey ez
  have hneg : ∀ (y : Nat) (w : World), (Op.unary .neg (.float .f64 y)).run Try.prog w = .ok (.float .f64 (Op.negFloat .f64 y)) w := fun _ _ => rfl
  have f1 := frombits_run a
  have f2 := frombits_run b
  have f3 := frombits_run c
  go_enter Try.func3, Try.ntmps3
  go_wp2_with (first | (go_at_call_of 9 (Value.float FloatKind.f64 4607182418800017408); refine (strict_one _).mono ?_; rintro e w' ⟨rfl, rfl⟩) | (go_at_call 10; refine (copysign_calls _).mono ?_; rintro e w' ⟨rfl, rfl⟩) | (go_at_call_of 9 (Value.float FloatKind.f64 9223372036854775808); refine (strict_zeros _).mono ?_; rintro e w' ⟨rfl, rfl⟩))
  refine (Cab.out _).mono ?_
  rintro e w' ⟨rfl, rfl⟩
  go_wp2_with fail
  refine (Cbc.out _).mono ?_
  rintro e w' ⟨rfl, rfl⟩
  go_wp2_with fail
  refine (Cba.out _).mono ?_
  rintro e w' ⟨rfl, rfl⟩
  have q0 : (x != x) = false := by simp
  have q1 : decide (x < -1) = false := decide_eq_false (by omega)
  have q2 : decide (1 < x) = false := decide_eq_false (by omega)
  by_cases hx0 : x ≤ 0
  · by_cases hy0 : y ≤ 0
    · have hz0 : z ≤ 0 := HT.out hx0 hy0
      by_cases na : Fl.nan a
      · have g1 : (FloatKind.f64.format.order a a == some .eq) = false := by rw [feq_self, decide_eq_false (fun h => h na)]
        have g2 : (FloatKind.f64.format.order a a != some .eq) = true := by rw [fneq_self, decide_eq_true na]
        by_cases nb : Fl.nan b
        · have g3 : (FloatKind.f64.format.order b b != some .eq) = true := by rw [fneq_self, decide_eq_true nb]
          have g4 : (x == 0) = true := by have := (total_nans a b ha hb (.inl na)).2 ⟨na, nb⟩; rw [EX.out] at this; simp [this]
          go_wp2_with (go_at_call 9; refine (Cac.out _).mono ?_; rintro e w' ⟨rfl, rfl⟩)
          go_ret
          exact ⟨rfl, rfl⟩
        · have g3 : (FloatKind.f64.format.order b b != some .eq) = false := by rw [fneq_self, decide_eq_false nb]
          have g4 : (x == 0) = false := by
            have := mt (total_nans a b ha hb (.inl na)).1 (fun h => nb h.2)
            rw [EX.out] at this; simp [this]
          go_wp2_with (go_at_call 9; refine (Cac.out _).mono ?_; rintro e w' ⟨rfl, rfl⟩)
          go_ret
          exact ⟨rfl, rfl⟩
      have g1 : (FloatKind.f64.format.order a a == some .eq) = true := by rw [feq_self, decide_eq_true na]
      have g2 : (FloatKind.f64.format.order a a != some .eq) = false := by rw [fneq_self, decide_eq_false na]
      by_cases nb : Fl.nan b
      · have g3 : (FloatKind.f64.format.order b b == some .eq) = false := by rw [feq_self, decide_eq_false (fun h => h nb)]
        have g4 : (x == 0) = false := by
          have := mt (total_nans a b ha hb (.inr nb)).1 (fun h => na h.1)
          rw [EX.out] at this; simp [this]
        go_wp2_with (go_at_call 9; refine (Cac.out _).mono ?_; rintro e w' ⟨rfl, rfl⟩)
        go_ret
        exact ⟨rfl, rfl⟩
      have g3 : (FloatKind.f64.format.order b b == some .eq) = true := by rw [feq_self, decide_eq_true nb]
      obtain ⟨t1, t2⟩ := total_nums a b ha hb na nb
      rw [EX.out] at t1 t2
      obtain ⟨u1, u2, u3⟩ := negFloat_facts a ha na
      obtain ⟨v1, v2, v3⟩ := negFloat_facts b hb nb
      have Cn := strict_as _ _ v1 u1 x (by rw [u3, v3, cmp_minus, EX.out])
      have L := flt a b na nb
      have NE := fneq a b na nb
      clear EX u1 u2 u3 v1 v2 v3
      by_cases e : a = b
      · have g4 : (x == 0) = true := by simp [t1.2 e]
        have g5 : ((a : Int) == (b : Int)) = true := by simp [e]
        have g6 : decide (x < 0) = false := decide_eq_false (by have := t1.2 e; omega)
        rw [decide_eq_false (by rw [e]; omega)] at L
        clear NE t1 t2 e
        go_wp2_with (first | (go_at_call_of 9 (Value.float FloatKind.f64 c); refine (Cac.out _).mono ?_; rintro e w' ⟨rfl, rfl⟩) | (go_at_call 9; refine (Cn.out _).mono ?_; rintro e w' ⟨rfl, rfl⟩))
        go_ret
        exact ⟨rfl, rfl⟩
      have g4 : (x == 0) = false := by have := mt t1.1 e; simp [this]
      have g5 : ((a : Int) == (b : Int)) = false := by simp; omega
      by_cases s : Fl.sr a < Fl.sr b
      · have g6 : decide (x < 0) = true := decide_eq_true (t2.1 s).1
        rw [decide_eq_true s] at L
        rw [decide_eq_false (t2.1 s).2] at NE
        simp only [Bool.not_false] at NE
        clear t1 t2 e
        go_wp2_with (first | (go_at_call_of 9 (Value.float FloatKind.f64 c); refine (Cac.out _).mono ?_; rintro e w' ⟨rfl, rfl⟩) | (go_at_call 9; refine (Cn.out _).mono ?_; rintro e w' ⟨rfl, rfl⟩))
        go_ret
        exact ⟨rfl, rfl⟩
      rw [decide_eq_false s] at L
      by_cases xn : x < 0
      · have g6 : decide (x < 0) = true := decide_eq_true xn
        rw [decide_eq_true (by by_cases q : Fl.sr a = Fl.sr b; exact q; exact absurd (t2.2 ⟨xn, q⟩) s)] at NE
        simp only [Bool.not_true] at NE
        clear t1 t2 e
        go_wp2_with (first | (go_at_call_of 9 (Value.float FloatKind.f64 c); refine (Cac.out _).mono ?_; rintro e w' ⟨rfl, rfl⟩) | (go_at_call 9; refine (Cn.out _).mono ?_; rintro e w' ⟨rfl, rfl⟩))
        go_ret
        exact ⟨rfl, rfl⟩
      · have g6 : decide (x < 0) = false := decide_eq_false xn
        clear NE t1 t2 e
        go_wp2_with (first | (go_at_call_of 9 (Value.float FloatKind.f64 c); refine (Cac.out _).mono ?_; rintro e w' ⟨rfl, rfl⟩) | (go_at_call 9; refine (Cn.out _).mono ?_; rintro e w' ⟨rfl, rfl⟩))
        go_ret
        exact ⟨rfl, rfl⟩
    · have hz0 : ¬ y ≤ 0 := hy0
      by_cases na : Fl.nan a
      · have g1 : (FloatKind.f64.format.order a a == some .eq) = false := by rw [feq_self, decide_eq_false (fun h => h na)]
        have g2 : (FloatKind.f64.format.order a a != some .eq) = true := by rw [fneq_self, decide_eq_true na]
        by_cases nb : Fl.nan b
        · have g3 : (FloatKind.f64.format.order b b != some .eq) = true := by rw [fneq_self, decide_eq_true nb]
          have g4 : (x == 0) = true := by have := (total_nans a b ha hb (.inl na)).2 ⟨na, nb⟩; rw [EX.out] at this; simp [this]
          go_wp2_with fail
          go_ret
          exact ⟨rfl, rfl⟩
        · have g3 : (FloatKind.f64.format.order b b != some .eq) = false := by rw [fneq_self, decide_eq_false nb]
          have g4 : (x == 0) = false := by
            have := mt (total_nans a b ha hb (.inl na)).1 (fun h => nb h.2)
            rw [EX.out] at this; simp [this]
          go_wp2_with fail
          go_ret
          exact ⟨rfl, rfl⟩
      have g1 : (FloatKind.f64.format.order a a == some .eq) = true := by rw [feq_self, decide_eq_true na]
      have g2 : (FloatKind.f64.format.order a a != some .eq) = false := by rw [fneq_self, decide_eq_false na]
      by_cases nb : Fl.nan b
      · have g3 : (FloatKind.f64.format.order b b == some .eq) = false := by rw [feq_self, decide_eq_false (fun h => h nb)]
        have g4 : (x == 0) = false := by
          have := mt (total_nans a b ha hb (.inr nb)).1 (fun h => na h.1)
          rw [EX.out] at this; simp [this]
        go_wp2_with fail
        go_ret
        exact ⟨rfl, rfl⟩
      have g3 : (FloatKind.f64.format.order b b == some .eq) = true := by rw [feq_self, decide_eq_true nb]
      obtain ⟨t1, t2⟩ := total_nums a b ha hb na nb
      rw [EX.out] at t1 t2
      obtain ⟨u1, u2, u3⟩ := negFloat_facts a ha na
      obtain ⟨v1, v2, v3⟩ := negFloat_facts b hb nb
      have Cn := strict_as _ _ v1 u1 x (by rw [u3, v3, cmp_minus, EX.out])
      have L := flt a b na nb
      have NE := fneq a b na nb
      clear EX u1 u2 u3 v1 v2 v3
      by_cases e : a = b
      · have g4 : (x == 0) = true := by simp [t1.2 e]
        have g5 : ((a : Int) == (b : Int)) = true := by simp [e]
        have g6 : decide (x < 0) = false := decide_eq_false (by have := t1.2 e; omega)
        rw [decide_eq_false (by rw [e]; omega)] at L
        clear NE t1 t2 e
        go_wp2_with (first | (go_at_call_of 9 (Value.float FloatKind.f64 c); refine (Cac.out _).mono ?_; rintro e w' ⟨rfl, rfl⟩) | (go_at_call 9; refine (Cn.out _).mono ?_; rintro e w' ⟨rfl, rfl⟩))
        go_ret
        exact ⟨rfl, rfl⟩
      have g4 : (x == 0) = false := by have := mt t1.1 e; simp [this]
      have g5 : ((a : Int) == (b : Int)) = false := by simp; omega
      by_cases s : Fl.sr a < Fl.sr b
      · have g6 : decide (x < 0) = true := decide_eq_true (t2.1 s).1
        rw [decide_eq_true s] at L
        rw [decide_eq_false (t2.1 s).2] at NE
        simp only [Bool.not_false] at NE
        clear t1 t2 e
        go_wp2_with (first | (go_at_call_of 9 (Value.float FloatKind.f64 c); refine (Cac.out _).mono ?_; rintro e w' ⟨rfl, rfl⟩) | (go_at_call 9; refine (Cn.out _).mono ?_; rintro e w' ⟨rfl, rfl⟩))
        go_ret
        exact ⟨rfl, rfl⟩
      rw [decide_eq_false s] at L
      by_cases xn : x < 0
      · have g6 : decide (x < 0) = true := decide_eq_true xn
        rw [decide_eq_true (by by_cases q : Fl.sr a = Fl.sr b; exact q; exact absurd (t2.2 ⟨xn, q⟩) s)] at NE
        simp only [Bool.not_true] at NE
        clear t1 t2 e
        go_wp2_with (first | (go_at_call_of 9 (Value.float FloatKind.f64 c); refine (Cac.out _).mono ?_; rintro e w' ⟨rfl, rfl⟩) | (go_at_call 9; refine (Cn.out _).mono ?_; rintro e w' ⟨rfl, rfl⟩))
        go_ret
        exact ⟨rfl, rfl⟩
      · have g6 : decide (x < 0) = false := decide_eq_false xn
        clear NE t1 t2 e
        go_wp2_with (first | (go_at_call_of 9 (Value.float FloatKind.f64 c); refine (Cac.out _).mono ?_; rintro e w' ⟨rfl, rfl⟩) | (go_at_call 9; refine (Cn.out _).mono ?_; rintro e w' ⟨rfl, rfl⟩))
        go_ret
        exact ⟨rfl, rfl⟩
  · have hz0 : ¬ x ≤ 0 := hx0
    by_cases na : Fl.nan a
    · have g1 : (FloatKind.f64.format.order a a == some .eq) = false := by rw [feq_self, decide_eq_false (fun h => h na)]
      have g2 : (FloatKind.f64.format.order a a != some .eq) = true := by rw [fneq_self, decide_eq_true na]
      by_cases nb : Fl.nan b
      · have g3 : (FloatKind.f64.format.order b b != some .eq) = true := by rw [fneq_self, decide_eq_true nb]
        have g4 : (x == 0) = true := by have := (total_nans a b ha hb (.inl na)).2 ⟨na, nb⟩; rw [EX.out] at this; simp [this]
        go_wp2_with fail
        go_ret
        exact ⟨rfl, rfl⟩
      · have g3 : (FloatKind.f64.format.order b b != some .eq) = false := by rw [fneq_self, decide_eq_false nb]
        have g4 : (x == 0) = false := by
          have := mt (total_nans a b ha hb (.inl na)).1 (fun h => nb h.2)
          rw [EX.out] at this; simp [this]
        go_wp2_with fail
        go_ret
        exact ⟨rfl, rfl⟩
    have g1 : (FloatKind.f64.format.order a a == some .eq) = true := by rw [feq_self, decide_eq_true na]
    have g2 : (FloatKind.f64.format.order a a != some .eq) = false := by rw [fneq_self, decide_eq_false na]
    by_cases nb : Fl.nan b
    · have g3 : (FloatKind.f64.format.order b b == some .eq) = false := by rw [feq_self, decide_eq_false (fun h => h nb)]
      have g4 : (x == 0) = false := by
        have := mt (total_nans a b ha hb (.inr nb)).1 (fun h => na h.1)
        rw [EX.out] at this; simp [this]
      go_wp2_with fail
      go_ret
      exact ⟨rfl, rfl⟩
    have g3 : (FloatKind.f64.format.order b b == some .eq) = true := by rw [feq_self, decide_eq_true nb]
    obtain ⟨t1, t2⟩ := total_nums a b ha hb na nb
    rw [EX.out] at t1 t2
    obtain ⟨u1, u2, u3⟩ := negFloat_facts a ha na
    obtain ⟨v1, v2, v3⟩ := negFloat_facts b hb nb
    have Cn := strict_as _ _ v1 u1 x (by rw [u3, v3, cmp_minus, EX.out])
    have L := flt a b na nb
    have NE := fneq a b na nb
    clear EX u1 u2 u3 v1 v2 v3
    by_cases e : a = b
    · have g4 : (x == 0) = true := by simp [t1.2 e]
      have g5 : ((a : Int) == (b : Int)) = true := by simp [e]
      have g6 : decide (x < 0) = false := decide_eq_false (by have := t1.2 e; omega)
      rw [decide_eq_false (by rw [e]; omega)] at L
      clear NE t1 t2 e
      go_wp2_with (first | (go_at_call_of 9 (Value.float FloatKind.f64 c); refine (Cac.out _).mono ?_; rintro e w' ⟨rfl, rfl⟩) | (go_at_call 9; refine (Cn.out _).mono ?_; rintro e w' ⟨rfl, rfl⟩))
      go_ret
      exact ⟨rfl, rfl⟩
    have g4 : (x == 0) = false := by have := mt t1.1 e; simp [this]
    have g5 : ((a : Int) == (b : Int)) = false := by simp; omega
    by_cases s : Fl.sr a < Fl.sr b
    · have g6 : decide (x < 0) = true := decide_eq_true (t2.1 s).1
      rw [decide_eq_true s] at L
      rw [decide_eq_false (t2.1 s).2] at NE
      simp only [Bool.not_false] at NE
      clear t1 t2 e
      go_wp2_with (first | (go_at_call_of 9 (Value.float FloatKind.f64 c); refine (Cac.out _).mono ?_; rintro e w' ⟨rfl, rfl⟩) | (go_at_call 9; refine (Cn.out _).mono ?_; rintro e w' ⟨rfl, rfl⟩))
      go_ret
      exact ⟨rfl, rfl⟩
    rw [decide_eq_false s] at L
    by_cases xn : x < 0
    · exact absurd xn (by omega)
    · have g6 : decide (x < 0) = false := decide_eq_false xn
      clear NE t1 t2 e
      go_wp2_with (first | (go_at_call_of 9 (Value.float FloatKind.f64 c); refine (Cac.out _).mono ?_; rintro e w' ⟨rfl, rfl⟩) | (go_at_call 9; refine (Cn.out _).mono ?_; rintro e w' ⟨rfl, rfl⟩))
      go_ret
      exact ⟨rfl, rfl⟩
end Go.Proofs.Ytikmollocchfnac
