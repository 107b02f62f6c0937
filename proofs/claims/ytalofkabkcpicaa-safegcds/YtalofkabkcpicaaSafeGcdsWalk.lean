/- SafeGcds: the walk of the law. -/
import Derived.Test.YtalofkabkcpicaaGcd
import Derived.OpenShut
namespace Go.Proofs.Ytalofkabkcpicaa
open Go.RowKit Go.ChangeShapes Go.WideShapes Go.ChangeAt

theorem grown_drewN {a w : World} (h : Grown a w) (n : Nat) : Grown a (w.drewN n) := h

set_option maxHeartbeats 1000000 in
theorem safeGcdsWalk (a0 : Int) (a1 : Int) (a2 : Int) (w0 : (Lit.int .i64 a0).wf = true) (w1 : (Lit.int .i64 a1).wf = true) (w2 : (Lit.int .i64 a2).wf = true) (w : World) :
    Calls Try.prog 8 #[.int .i64 a0, .int .i64 a1, .int .i64 a2] w fun e w' => e = .returned (.bool true) ∧ Grown w w' := by
  obtain ⟨b0, b0'⟩ := bounds_i64 w0
  obtain ⟨b1, b1'⟩ := bounds_i64 w1
  obtain ⟨b2, b2'⟩ := bounds_i64 w2
  have g1 : ((Int.gcd 12 18 : Nat) : Int) = 6 := by decide
  have g2 : ((Int.gcd 0 0 : Nat) : Int) = 0 := by decide
  go_enter Try.func8, Try.ntmps8
  go_wp2_with fail
  refine (gcd32 12 18 _ (by omega) (by omega) (by omega) (by omega)).mono ?_
  rintro e w' ⟨rfl, n1, rfl⟩
  rw [g1]
  go_wp2_with fail
  refine (gcd32 0 0 _ (by omega) (by omega) (by omega) (by omega)).mono ?_
  rintro e w' ⟨rfl, n2, rfl⟩
  rw [g2]
  go_wp2_with fail
  refine (gcd32 a0 a1 _ (by omega) (by omega) (by omega) (by omega)).mono ?_
  rintro e w' ⟨rfl, n3, rfl⟩
  by_cases hz : a0 = 0 ∧ a1 = 0
  · obtain ⟨rfl, rfl⟩ := hz
    rw [g2]
    go_wp2
    go_ret
    exact ⟨rfl, Grown.refl _⟩
  · have hpos : 0 < Int.gcd a0 a1 := Nat.pos_of_ne_zero (fun h => hz (Int.gcd_eq_zero_iff.1 h))
    obtain ⟨g, hg⟩ : ∃ g, g = Int.gcd a0 a1 := ⟨_, rfl⟩
    rw [← hg] at hpos ⊢
    have hd0 : (((a0.natAbs : Int) % (g : Int)) != 0) = false := by
      have : g ∣ a0.natAbs := by rw [hg]; exact Nat.gcd_dvd_left _ _
      simp; exact_mod_cast Nat.mod_eq_zero_of_dvd this
    have hd1 : (((a1.natAbs : Int) % (g : Int)) != 0) = false := by
      have : g ∣ a1.natAbs := by rw [hg]; exact Nat.gcd_dvd_right _ _
      simp; exact_mod_cast Nat.mod_eq_zero_of_dvd this
    have HG : Hid (g = Int.gcd a0 a1) := hg
    clear hg
    have hgne : ¬ ((g : Int) = 0) := by omega
    have hgz : ((g : Int) == 0) = false := by simp; omega
    have fin : ∀ c : Nat, ¬ c = 0 → (a0.natAbs : Int) % (c : Int) = 0 → (a1.natAbs : Int) % (c : Int) = 0 → (((g : Int) % (c : Int)) == 0) = true := by
      intro c hc h1 h2
      have e1 : c ∣ a0.natAbs := Nat.dvd_of_mod_eq_zero (by exact_mod_cast h1)
      have e2 : c ∣ a1.natAbs := Nat.dvd_of_mod_eq_zero (by exact_mod_cast h2)
      have e3 : c ∣ g := by rw [HG.out]; exact Nat.dvd_gcd e1 e2
      have e4 := Nat.mod_eq_zero_of_dvd e3
      simp; exact_mod_cast e4
    have HF : Hid (∀ c : Nat, ¬ c = 0 → (a0.natAbs : Int) % (c : Int) = 0 → (a1.natAbs : Int) % (c : Int) = 0 → (((g : Int) % (c : Int)) == 0) = true) := fin
    clear fin
    have h00 : ((a0 == 0) = true ∧ (a1 == 0) = false) ∨ (a0 == 0) = false := by
      by_cases h : a0 = 0
      · exact .inl ⟨by simp [h], by simp; exact fun h' => hz ⟨h, h'⟩⟩
      · exact .inr (by simp [h])
    rcases h00 with ⟨h0, h1⟩ | h0
    all_goals
      go_wp2_with fail
      refine (mag33 _ _ b0 b0').mono ?_
      rintro e w' ⟨rfl, rfl⟩
      go_wp2_with fail
      refine (mag33 _ _ b1 b1').mono ?_
      rintro e w' ⟨rfl, rfl⟩
      go_wp2_with fail
      refine (mag33 _ _ b2 b2').mono ?_
      rintro e w' ⟨rfl, rfl⟩
      obtain ⟨c, hc⟩ : ∃ c, c = a2.natAbs := ⟨_, rfl⟩
      rw [← hc]
      clear hc
      by_cases c0 : c = 0
      · subst c0
        go_wp2
        go_ret
        exact ⟨rfl, Grown.refl _⟩
      · have c1 : ((c : Int) == 0) = false := by simp; omega
        have c2 : ¬ ((c : Int) = 0) := by omega
        by_cases d0 : (a0.natAbs : Int) % (c : Int) = 0
        · by_cases d1 : (a1.natAbs : Int) % (c : Int) = 0
          · have d2 := HF.out c c0 d0 d1
            have e0 : (((a0.natAbs : Int) % (c : Int)) != 0) = false := by simp [d0]
            have e1 : (((a1.natAbs : Int) % (c : Int)) != 0) = false := by simp [d1]
            clear d0 d1
            go_wp2
            go_ret
            exact ⟨rfl, Grown.refl _⟩
          · have e0 : (((a0.natAbs : Int) % (c : Int)) != 0) = false := by simp [d0]
            have e1 : (((a1.natAbs : Int) % (c : Int)) != 0) = true := by simp [d1]
            clear d0 d1
            go_wp2
            go_ret
            exact ⟨rfl, Grown.refl _⟩
        · have e0 : (((a0.natAbs : Int) % (c : Int)) != 0) = true := by simp [d0]
          clear d0
          go_wp2
          go_ret
          exact ⟨rfl, Grown.refl _⟩
end Go.Proofs.Ytalofkabkcpicaa
