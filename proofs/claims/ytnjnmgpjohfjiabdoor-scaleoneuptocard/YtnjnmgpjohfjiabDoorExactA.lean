/- What ScaleExact holds of Admit and Back: mathematics, and Back as a call that only draws. -/
import Derived.Test.YtnjnmgpjohfjiabDoorBackP
namespace Go.Proofs.YtnjnmgpjohfjiabDoor
open Go.RowKit

theorem V_digs (x : Nat) : Fl.V (x % 9223372036854775808) = digs x * 2 ^ fld x := by
  unfold Fl.V digs fld
  have e1 : x % 9223372036854775808 / 4503599627370496 = x / 4503599627370496 % 2048 := by omega
  have e2 : x % 9223372036854775808 % 4503599627370496 = x % 4503599627370496 := by omega
  by_cases c : 0 < x / 4503599627370496 % 2048
  · rw [if_pos c, if_neg (by omega), e1, e2]
  · have e3 : x / 4503599627370496 % 2048 - 1 = 0 := by omega
    rw [if_neg c, if_pos (by omega), e3]
    omega

theorem V_inj {a b : Nat} (h : Fl.V a = Fl.V b) : a = b := by
  have h1 := Fl.V_lt_iff a b
  have h2 := Fl.V_lt_iff b a
  omega

theorem back_odd (x : Nat) (hf : x % 9223372036854775808 < 9218868437227405312) (h0 : podd x ≠ 0) : Fl.near (podd x) false (pexp x) = x % 9223372036854775808 := by
  rcases part_facts x with ⟨_, h, _⟩ | ⟨hd, ho, hl, z, hz, hdz, hpe⟩
  · exact absurd h h0
  have hdl := digs_lt x
  have hfl : fld x ≤ 2045 := by unfold fld; omega
  have hlog : (podd x).log2 + z < 53 := by
    have h1 := Fl.log2_lo h0
    have h2 : 2 ^ ((podd x).log2 + z) ≤ digs x := by rw [Nat.pow_add, hdz]; exact Nat.mul_le_mul_right _ h1
    have h3 : 2 ^ ((podd x).log2 + z) < 2 ^ 53 := Nat.lt_of_le_of_lt h2 (by omega)
    exact (Nat.pow_lt_pow_iff_right (by omega)).1 h3
  obtain ⟨_, hv⟩ := Fl.near_exact (podd x) (pexp x) h0 hl (by omega) (by omega)
  refine V_inj ?_
  rw [hv, V_digs x, hdz]
  have e1 : (pexp x + 1074).toNat = z + fld x := by omega
  rw [e1, Nat.pow_add, Nat.mul_assoc]

theorem wnum_odd (x : Nat) (e : Int) (h0 : podd x ≠ 0) : wnum x e ≠ 0 ∧ decide (wnum x e < 0) = fneg x ∧ (wnum x e).natAbs = podd x * 2 ^ (pexp x - e).toNat := by
  have hp : 0 < podd x * 2 ^ (pexp x - e).toNat := Nat.mul_pos (by omega) (Nat.pow_pos (by omega))
  unfold wnum wmag
  generalize podd x * 2 ^ (pexp x - e).toNat = m at hp
  cases h : fneg x
  · rw [if_neg (by simp)]
    exact ⟨by omega, decide_eq_false (by omega), by omega⟩
  · rw [if_pos rfl]
    exact ⟨by omega, decide_eq_true (by omega), by omega⟩

theorem cls_fin (x : Nat) (h : fcls x = 0) : x % 9223372036854775808 < 9218868437227405312 := by
  unfold fcls at h
  by_cases c1 : Fl.nan x
  · rw [if_pos c1] at h; cases h
  · rw [if_neg c1] at h
    by_cases c2 : x % 9223372036854775808 = 9218868437227405312
    · rw [if_pos c2] at h; cases h
    · unfold Fl.nan at c1; omega

theorem back_finite (x : Nat) (e : Int) (hx : x < 18446744073709551616) (hf : fcls x = 0) (e1 : -1074 ≤ e) (e2 : e ≤ 1024) (he : podd x ≠ 0 → e ≤ pexp x) :
    (FloatKind.f64.format.order (backWord (wnum x e) e) x != some .eq) = false := by
  have hf' := cls_fin x hf
  have hnx : ¬ Fl.nan x := by unfold Fl.nan; omega
  suffices H : ¬ Fl.nan (backWord (wnum x e) e) ∧ Fl.sr (backWord (wnum x e) e) = Fl.sr x by
    have := Fl.eq_iff _ x H.1 hnx
    rw [decide_eq_true H.2] at this
    have t : (FloatKind.f64.format.order (backWord (wnum x e) e) x == some .eq) = true := this
    simp only [bne, t]
    rfl
  by_cases h0 : podd x = 0
  · have hw : wnum x e = 0 := by unfold wnum wmag; rw [h0, Nat.zero_mul]; split <;> rfl
    have hd : digs x = 0 := by
      rcases part_facts x with ⟨h, _, _⟩ | ⟨_, ho, _⟩
      · exact h
      · omega
    have hr : x % 9223372036854775808 = 0 := by
      unfold digs at hd
      split at hd <;> omega
    rw [hw]
    unfold backWord
    rw [if_pos rfl]
    refine ⟨by unfold Fl.nan; omega, ?_⟩
    unfold Fl.sr
    rw [hr]
    split <;> split <;> rfl
  · obtain ⟨w1, w2, w3⟩ := wnum_odd x e h0
    unfold backWord
    rw [if_neg w1, w2, w3]
    have hm : max (-2048) (min e 2048) = e := by omega
    rw [hm]
    have hk : e = pexp x - ((pexp x - e).toNat : Int) := by have := he h0; omega
    have hn : Fl.near (podd x * 2 ^ (pexp x - e).toNat) false e = x % 9223372036854775808 := by
      have := Fl.near_shift (podd x) (pexp x - e).toNat false (pexp x) h0 (fun h => by cases h)
      rw [← hk] at this
      rw [this, back_odd x hf' h0]
    rw [hn]
    obtain ⟨n1, n2⟩ := Fl.word_num (fneg x) (x % 9223372036854775808) (by omega)
    refine ⟨n1, ?_⟩
    rw [n2, Fl.sr_sgn x]
    have : fneg x = (x / 9223372036854775808 % 2 == 1) := by
      unfold fneg
      by_cases c : 9223372036854775808 ≤ x
      · rw [decide_eq_true c]; have : x / 9223372036854775808 % 2 = 1 := by omega
        rw [this]; rfl
      · rw [decide_eq_false c]; have : x / 9223372036854775808 % 2 = 0 := by omega
        rw [this]; rfl
    rw [this]

/-- Whether one of the first k numbers is odd, and whether one is not nought. -/
def oddTo (ds : List Nat) (e : Int) : Nat → Bool
  | 0 => false
  | k + 1 => oddTo ds e k || (wnum (ds.getD k 0) e % 2 == 1)
def anyTo (ds : List Nat) (e : Int) : Nat → Bool
  | 0 => false
  | k + 1 => anyTo ds e k || (wnum (ds.getD k 0) e != 0)

theorem odd_some (ds : List Nat) (e : Int) (k j : Nat) (hj : j < k) (h : wnum (ds.getD j 0) e % 2 = 1) : oddTo ds e k = true ∧ anyTo ds e k = true := by
  induction k with
  | zero => omega
  | succ k ih =>
    unfold oddTo anyTo
    by_cases c : j = k
    · subst c
      generalize wnum (ds.getD j 0) e = y at h
      have h2 : (y % 2 == 1) = true := by simp [h]
      have h3 : (y != 0) = true := by simp; omega
      rw [h2, h3]
      simp
    · obtain ⟨i1, i2⟩ := ih (by omega)
      rw [i1, i2]
      simp
theorem odd_none (ds : List Nat) (e : Int) (k : Nat) (h : ∀ j, j < k → wnum (ds.getD j 0) e = 0) : oddTo ds e k = false ∧ anyTo ds e k = false := by
  induction k with
  | zero => exact ⟨rfl, rfl⟩
  | succ k ih =>
    unfold oddTo anyTo
    obtain ⟨i1, i2⟩ := ih (fun j hj => h j (by omega))
    rw [i1, i2, h k (by omega)]
    exact ⟨rfl, rfl⟩

theorem comTo_kind (ds : List Nat) (k : Nat) : ((comTo ds k).1 = false ∧ (comTo ds k).2 = 0 ∧ ∀ j, j < k → podd (ds.getD j 0) = 0) ∨ ∃ j, j < k ∧ podd (ds.getD j 0) ≠ 0 ∧ pexp (ds.getD j 0) = (comTo ds k).2 := by
  induction k with
  | zero => exact .inl ⟨rfl, rfl, fun j hj => by omega⟩
  | succ k ih =>
    unfold comTo
    by_cases c : podd (ds.getD k 0) ≠ 0 ∧ ((comTo ds k).1 = false ∨ pexp (ds.getD k 0) < (comTo ds k).2)
    · rw [if_pos c]
      exact .inr ⟨k, by omega, c.1, rfl⟩
    · rw [if_neg c]
      rcases ih with ⟨i1, i2, i3⟩ | ⟨j, j1, j2, j3⟩
      · refine .inl ⟨i1, i2, fun j hj => ?_⟩
        by_cases q : j = k
        · subst q
          by_cases p : podd (ds.getD j 0) = 0
          · exact p
          · exact absurd ⟨p, .inl i1⟩ c
        · exact i3 j (by omega)
      · exact .inr ⟨j, by omega, j2, j3⟩

theorem flags (ds : List Nat) (k : Nat) : (oddTo ds (comTo ds k).2 k = true ∧ anyTo ds (comTo ds k).2 k = true) ∨ (oddTo ds (comTo ds k).2 k = false ∧ anyTo ds (comTo ds k).2 k = false ∧ (comTo ds k).2 = 0) := by
  rcases comTo_kind ds k with ⟨_, i2, i3⟩ | ⟨j, j1, j2, j3⟩
  · have := odd_none ds (comTo ds k).2 k (fun j hj => by unfold wnum wmag; rw [i3 j hj, Nat.zero_mul]; split <;> rfl)
    exact .inr ⟨this.1, this.2, i2⟩
  · refine .inl (odd_some ds _ k j j1 ?_)
    rcases part_facts (ds.getD j 0) with ⟨_, h, _⟩ | ⟨_, ho, _⟩
    · exact absurd h j2
    · unfold wnum wmag
      rw [← j3, Int.sub_self]
      simp only [Int.toNat_zero, Nat.pow_zero, Nat.mul_one]
      split <;> omega

theorem admit_sum (ds : List Nat) (most : Int) (ns : List Int) (e c a : Int) (h : admitOf ds most = (ns, e, c, a)) :
    (c ≠ 0 ∧ ns = [] ∧ e = 0 ∧ 0 ≤ a) ∨ (c = 0 ∧ 1 ≤ most ∧ most ≤ 9007199254740992 ∧ e = (comTo ds ds.length).2 ∧ ns = ds.map (fun x => wnum x e) ∧ ∀ j, j < ds.length → fcls (ds.getD j 0) = 0 ∧ (wmag (ds.getD j 0) e : Int) ≤ most) := by
  unfold admitOf at h
  by_cases c1 : most < 1 ∨ 9007199254740992 < most
  · rw [if_pos c1] at h
    simp only [Prod.mk.injEq] at h
    obtain ⟨rfl, rfl, rfl, rfl⟩ := h
    exact .inl ⟨by decide, rfl, rfl, by decide⟩
  rw [if_neg c1] at h
  by_cases c2 : (unfitOf ds).1 ≠ 0
  · rw [if_pos c2] at h
    simp only [Prod.mk.injEq] at h
    obtain ⟨rfl, rfl, rfl, rfl⟩ := h
    refine .inl ⟨c2, rfl, rfl, ?_⟩
    unfold unfitOf
    split
    · show (0 : Int) ≤ _; omega
    · show (0 : Int) ≤ 0; omega
  rw [if_neg c2] at h
  have hall := unfit_all ds (by simpa using c2)
  cases hf : firstOf (wideAt ds (comTo ds ds.length).2 most) ds.length with
  | some j =>
    rw [hf] at h
    simp only [Prod.mk.injEq] at h
    obtain ⟨rfl, rfl, rfl, rfl⟩ := h
    exact .inl ⟨by decide, rfl, rfl, by omega⟩
  | none =>
    rw [hf] at h
    simp only [Prod.mk.injEq] at h
    obtain ⟨rfl, rfl, rfl, rfl⟩ := h
    refine .inr ⟨rfl, by omega, by omega, rfl, rfl, fun j hj => ⟨hall j hj, ?_⟩⟩
    unfold firstOf at hf
    rw [List.find?_eq_none] at hf
    have := hf j (by rw [List.mem_range]; exact hj)
    unfold wideAt at this
    simp at this
    exact this

theorem i64_and1 (n : Int) : bits .and .i64 n 1 = n % 2 := by
  have h1 : (BitVec.ofInt 64 1).toNat = 2 ^ 1 - 1 := by decide
  have key : (BitVec.ofInt 64 n &&& BitVec.ofInt 64 1).toNat = (n % ((2 ^ 64 : Nat) : Int)).toNat % 2 ^ 1 := by
    rw [BitVec.toNat_and, BitVec.toNat_ofInt, h1, Nat.and_two_pow_sub_one_eq_mod]
  show IntKind.i64.wrap ((BitVec.ofInt 64 n &&& BitVec.ofInt 64 1).toNat : Nat) = n % 2
  rw [key, IntKind.wrap_i64]
  omega

set_option maxHeartbeats 2000000 in
theorem backD_calls (n e : Int) (n1 : -9223372036854775808 ≤ n) (n2 : n ≤ 9223372036854775807) (e1 : -1074 ≤ e) (e2 : e ≤ 1024) (w : World) :
    Calls Tryd.prog 14 #[.int .i64 n, .int .i64 e] w fun v w' => v = .returned (.float .f64 (backWord n e)) ∧ ∃ m, w' = w.drewN m := by
  by_cases hn : n = 0
  · have q : (n == 0) = true := by simp [hn]
    have e1 : backWord n e = 0 := by unfold backWord; rw [if_pos hn]
    rw [e1]
    clear hn e1
    go_enter Tryd.func14, Tryd.ntmps14
    go_wp2
    go_ret
    exact ⟨rfl, 0, rfl⟩
  have q : (n == 0) = false := by simp [hn]
  have e1 : backWord n e = Ieee.double.word (decide (n < 0)) (Fl.near n.natAbs false (max (-2048) (min e 2048))) := by unfold backWord; rw [if_neg hn]
  rw [e1]
  clear e1
  have M := hid_of (fun w => magnitude_calls n n1 n2 w)
  have N := hid_of (fun (e : Int) (a : -4000 ≤ e) (b : e ≤ 2048) (w : World) => nearest_calls (decide (n < 0)) n.natAbs false e (by omega) (by omega) (by simp) a b w)
  generalize n.natAbs = A at M N
  have c1 : e < 2048 := by omega
  have c2 : -2048 < e := by omega
  have hm : max (-2048) (min e 2048) = e := by omega
  rw [hm]
  have NE := hid_of (N.out e (by omega) (by omega))
  clear N hm hn
  go_enter Tryd.func14, Tryd.ntmps14
  go_wp2_with (first | (go_at_call 23; refine (M.out _).mono ?_; rintro v w' ⟨rfl, rfl⟩) | (go_at_call 26; refine (NE.out _).mono ?_; rintro v w' ⟨rfl, k, rfl⟩))
  go_ret
  exact ⟨rfl, _, rfl⟩

theorem back_quiet (n e : Int) (n1 : -9223372036854775808 ≤ n) (n2 : n ≤ 9223372036854775807) (e1 : -1074 ≤ e) (e2 : e ≤ 1024) (w : World) (p : Nat) :
    Calls Tryd.prog 14 #[.int .i64 n, .int .i64 e] (w.drewN p) fun v w' => v = .returned (.float .f64 (backWord n e)) ∧ ∃ m, w' = w.drewN m :=
  (backD_calls n e n1 n2 e1 e2 (w.drewN p)).mono fun _ _ ⟨h1, _, h2⟩ => ⟨h1, _, h2.trans (World.drewN_drewN ..)⟩
end Go.Proofs.YtnjnmgpjohfjiabDoor
