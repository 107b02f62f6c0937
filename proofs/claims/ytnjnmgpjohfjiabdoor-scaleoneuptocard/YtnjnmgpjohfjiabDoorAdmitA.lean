/- What Admit is made of, in the program. -/
import Derived.Test.YtnjnmgpjohfjiabDoorPart
import Derived.Test.YtnjnmgpjohfjiabDoorFloats
import Derived.Test.YtnjnmgpjohfjiabDoorRefStrict
namespace Go.Proofs.YtnjnmgpjohfjiabDoor
open Go.RowKit

/-- The first place below n at which p holds. -/
def firstOf (p : Nat → Bool) (n : Nat) : Option Nat := (List.range n).find? p

theorem firstOf_some {p : Nat → Bool} {n j : Nat} (hj : j < n) (h : p j = true) (hb : ∀ i, i < j → p i = false) : firstOf p n = some j := by
  unfold firstOf
  rw [List.find?_range_eq_some]
  exact ⟨h, by simpa using hj, fun i hi => by simp [hb i hi]⟩
theorem firstOf_none {p : Nat → Bool} {n : Nat} (hb : ∀ i, i < n → p i = false) : firstOf p n = none := by
  unfold firstOf
  rw [List.find?_eq_none]
  intro x hx
  rw [List.mem_range] at hx
  simp [hb x hx]

/-- The label at a place. -/
abbrev lab (ds : List Nat) (j : Nat) : Nat := ds.getD j 0

def wrongAt (ds : List Nat) (j : Nat) : Bool := decide (fcls (ds.getD j 0) ≠ 0)
/-- The first label that is no number or infinite: the code and the place. -/
def unfitOf (ds : List Nat) : Int × Int :=
  match firstOf (wrongAt ds) ds.length with
  | some j => (if fcls (ds.getD j 0) = 2 then 20 else 21, (j : Int))
  | none => (0, 0)

theorem absbits (x : Nat) (hx : x < 18446744073709551616) : bits .andNot .u64 (x : Int) 9223372036854775808 = ((x % 9223372036854775808 : Nat) : Int) := by
  have h := u64_andNot_nat x 9223372036854775808 hx (by omega)
  rw [show (18446744073709551615 - 9223372036854775808 : Nat) = 2 ^ 63 - 1 by decide, Nat.and_two_pow_sub_one_eq_mod] at h
  exact h

theorem abs_calls (x : Nat) (hx : x < 18446744073709551616) (w : World) : Calls Tryd.prog 40 #[.float .f64 x] w fun e w' => e = .returned (.float .f64 (x % 9223372036854775808)) ∧ w = w' := by
  have hb := bits_run x
  have hm := absbits x hx
  have hf := frombits_run (x % 9223372036854775808)
  generalize x % 9223372036854775808 = r at hm hf
  go_enter Tryd.func40, Tryd.ntmps40
  go_wp2
  go_ret
  exact ⟨rfl, rfl⟩

theorem isInf_calls (x : Nat) (hx : x < 18446744073709551616) (hn : ¬ Fl.nan x) (w : World) : Calls Tryd.prog 32 #[.float .f64 x, .int .i64 0] w fun e w' => e = .returned (.bool (decide (fcls x = 1))) ∧ w = w' := by
  have hr : x % 9223372036854775808 ≤ 9218868437227405312 := by unfold Fl.nan at hn; omega
  have C := hid_of (fun w => abs_calls x hx w)
  have hc : decide (fcls x = 1) = (FloatKind.f64.format.order (x % 9223372036854775808) 9218868437227405311 == some .gt) := by
    have e : fcls x = if x % 9223372036854775808 = 9218868437227405312 then 1 else 0 := by unfold fcls; rw [if_neg hn]
    have n1 : ¬ Fl.nan (x % 9223372036854775808) := by unfold Fl.nan; omega
    rw [fgt _ _ n1 (by decide)]
    have s1 : Fl.sr 9218868437227405311 = 9218868437227405311 := by decide
    have s2 : Fl.sr (x % 9223372036854775808) = ((x % 9223372036854775808 : Nat) : Int) := by unfold Fl.sr; rw [if_neg (by omega)]; omega
    rw [s1, s2, e]
    by_cases c : x % 9223372036854775808 = 9218868437227405312
    · rw [if_pos c, decide_eq_true rfl, decide_eq_true (by omega)]
    · rw [if_neg c, decide_eq_false (by decide), decide_eq_false (by omega)]
  rw [hc]
  generalize x % 9223372036854775808 = r at C
  clear hc hr
  go_enter Tryd.func32, Tryd.ntmps32
  go_wp2_with (go_at_call 40; refine (C.out _).mono ?_; rintro e w' ⟨rfl, rfl⟩)
  go_ret
  exact ⟨rfl, rfl⟩

theorem fcls_nan (x : Nat) : decide (Fl.nan x) = decide (fcls x = 2) := by
  unfold fcls
  by_cases h : Fl.nan x
  · rw [if_pos h, decide_eq_true h, decide_eq_true rfl]
  · rw [if_neg h, decide_eq_false h]; split <;> rfl
theorem fcls_cases (x : Nat) : fcls x = 2 ∨ fcls x = 1 ∨ fcls x = 0 := by
  unfold fcls; split; exact .inl rfl; split; exact .inr (.inl rfl); exact .inr (.inr rfl)

set_option maxRecDepth 100000 in
set_option maxHeartbeats 2000000 in
theorem unfit_calls (ao : Option Addr) (n cap : Nat) (ds : List Nat) (w : World) (h : FRow w ao n cap ds) (hw : ∀ i, ds.getD i 0 < 18446744073709551616) (c a : Int) (hu : Hid (unfitOf ds = (c, a))) :
    Calls Tryd.prog 17 #[.slice ao n cap] w fun e w' => e = .returned (.agg #[.int .i64 c, .int .i64 a]) ∧ Kept w w' := by
  have hl1 : n ≤ ds.length := Nat.le_of_eq h.len
  have hl2 : ds.length ≤ n := Nat.le_of_eq h.len.symm
  have hr := h.room
  have hm := h.most
  unfold maxLen at hm
  have h' := h.kept ((Kept.refl w).alloc (Obj.cells #[.int .i64 0, .int .i64 0] 27))
  have KW : Kept w (w.alloc (Obj.cells #[.int .i64 0, .int .i64 0] 27)) := (Kept.refl w).alloc _
  go_enter Tryd.func17, Tryd.ntmps17
  go_wp2_with fail
  go_loop [7] (fun i => ∃ (k : Nat), k ≤ n ∧ i = .int .i64 k ∧ ∀ j, j < k → wrongAt ds j = false) (fun i => n - (intOf i).toNat)
  case atStart => exact ⟨0, by omega, rfl, fun j hj => by omega⟩
  case round =>
    obtain ⟨k, hk, rfl, R⟩ := hrel
    have HR := hid_of R
    clear R
    by_cases hgo : (k : Int) < (n : Int)
    · obtain ⟨b, off, rfl, hc⟩ := h'.cell (by omega)
      have hcx := hc k (by omega)
      have wx := hw k
      have e1 : Hid (unfitOf ds = (c, a)) := hu
      have stop : Hid (fcls (ds.getD k 0) ≠ 0 → c = (if fcls (ds.getD k 0) = 2 then 20 else 21) ∧ a = (k : Int)) := fun hne => by
        have := hu.out
        unfold unfitOf at this
        rw [firstOf_some (j := k) (by omega) (decide_eq_true hne) HR.out] at this
        simp only [Prod.mk.injEq] at this
        exact ⟨this.1.symm, this.2.symm⟩
      have go : Hid (fcls (ds.getD k 0) = 0 → ∀ j, j < k + 1 → wrongAt ds j = false) := fun hz j hj => by
        by_cases e : j = k
        · subst e; exact decide_eq_false (by simpa using hz)
        · exact HR.out j (by omega)
      clear hc hu
      generalize ds.getD k 0 = x at hcx wx stop go
      have hcell2 := fcls_nan x
      rcases fcls_cases x with f | f | f
      · obtain ⟨s1, s2⟩ := stop.out (by rw [f]; decide)
        rw [if_pos f] at s1
        subst s1 s2
        rw [f, decide_eq_true rfl] at hcell2
        clear stop go e1 f
        go_wp2_with (go_at_call 31; refine (isNaN_calls x _).mono ?_; rintro e w' ⟨rfl, rfl⟩)
        go_returns
        exact ⟨rfl, by first | exact KW | exact (Kept.refl w).alloc _⟩
      · obtain ⟨s1, s2⟩ := stop.out (by rw [f]; decide)
        rw [if_neg (by rw [f]; decide)] at s1
        subst s1 s2
        have nn : ¬ Fl.nan x := fun t => by rw [decide_eq_true t, f] at hcell2; cases hcell2
        rw [f, decide_eq_false (by decide : ¬ (1 : Int) = 2)] at hcell2
        have hi : decide (fcls x = 1) = true := decide_eq_true f
        clear stop go e1 f
        go_wp2_with (first | (go_at_call 31; refine (isNaN_calls x _).mono ?_; rintro e w' ⟨rfl, rfl⟩) | (go_at_call 32; refine (isInf_calls x wx nn _).mono ?_; rintro e w' ⟨rfl, rfl⟩))
        go_returns
        exact ⟨rfl, by first | exact KW | exact (Kept.refl w).alloc _⟩
      · have G := hid_of (go.out f)
        have nn : ¬ Fl.nan x := fun t => by rw [decide_eq_true t, f] at hcell2; cases hcell2
        rw [f, decide_eq_false (by decide : ¬ (0 : Int) = 2)] at hcell2
        have hi : decide (fcls x = 1) = false := decide_eq_false (by rw [f]; decide)
        clear stop go f
        go_wp2_with (first | (go_at_call 31; refine (isNaN_calls x _).mono ?_; rintro e w' ⟨rfl, rfl⟩) | (go_at_call 32; refine (isInf_calls x wx nn _).mono ?_; rintro e w' ⟨rfl, rfl⟩))
        go_round
        case rel => exact ⟨k + 1, by omega, by go_num, G.out⟩
        case measure => simp [intOf]; omega
    · obtain rfl : k = ds.length := by omega
      have e1 := hu.out
      unfold unfitOf at e1
      rw [firstOf_none HR.out] at e1
      simp only [Prod.mk.injEq] at e1
      obtain ⟨rfl, rfl⟩ := e1
      clear hu
      go_wp2
      go_returns
      exact ⟨rfl, by first | exact KW | exact (Kept.refl w).alloc _⟩
end Go.Proofs.YtnjnmgpjohfjiabDoor
