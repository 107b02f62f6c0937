/- The least label, in the program and in the document. -/
import Derived.Test.YtikmollocchfnabRefStrict
import Derived.Test.YtikmollocchfnabFloats
namespace Go.Proofs.Ytikmollocchfnab
open Go.RowKit

def IsLeast (ds : List Nat) (i : Nat) : Prop := ¬ Fl.nan (ds.getD i 0) ∧ ∀ j, j < ds.length → fkey (ds.getD i 0) ≤ fkey (ds.getD j 0)

/-- The first of the least, or the error's number. -/
def LeastIs (ds : List Nat) (r c : Int) : Prop :=
  (∃ b : Nat, r = (b : Int) ∧ c = 0 ∧ b < ds.length ∧ IsLeast ds b ∧ ∀ j, j < b → ¬ IsLeast ds j) ∨ (r = 0 ∧ c = 4 ∧ ∀ j, j < ds.length → ¬ IsLeast ds j)

theorem LeastIs.unique {ds : List Nat} {r c r' c' : Int} (h : LeastIs ds r c) (k : LeastIs ds r' c') : r = r' ∧ c = c' := by
  rcases h with ⟨b, rfl, rfl, h1, h2, h3⟩ | ⟨rfl, rfl, h1⟩ <;> rcases k with ⟨b', rfl, rfl, k1, k2, k3⟩ | ⟨rfl, rfl, k1⟩
  · have : b = b' := by
      by_cases c1 : b < b'
      · exact absurd h2 (k3 b c1)
      · by_cases c2 : b' < b
        · exact absurd k2 (h3 b' c2)
        · omega
    subst this
    exact ⟨rfl, rfl⟩
  · exact absurd h2 (k1 b h1)
  · exact absurd k2 (h1 b' k1)
  · exact ⟨rfl, rfl⟩

/-- The best of the first k. -/
def Best (ds : List Nat) (k : Nat) (best : Int) : Prop :=
  (best = -1 ∧ ∀ j, j < k → Fl.nan (ds.getD j 0)) ∨
  (∃ b : Nat, best = (b : Int) ∧ b < k ∧ ¬ Fl.nan (ds.getD b 0) ∧ (∀ j, j < k → fkey (ds.getD b 0) ≤ fkey (ds.getD j 0)) ∧ ∀ j, j < b → fkey (ds.getD b 0) < fkey (ds.getD j 0))

theorem Best.done {ds : List Nat} {best : Int} (h : Best ds ds.length best) : (best = -1 ∧ LeastIs ds 0 4) ∨ (0 ≤ best ∧ LeastIs ds best 0) := by
  rcases h with ⟨rfl, h⟩ | ⟨b, rfl, h1, h2, h3, h4⟩
  · exact .inl ⟨rfl, .inr ⟨rfl, rfl, fun j hj hl => hl.1 (h j hj)⟩⟩
  · refine .inr ⟨by omega, .inl ⟨b, rfl, rfl, h1, ⟨h2, h3⟩, fun j hj hl => ?_⟩⟩
    have := h4 j hj
    have := hl.2 b h1
    omega

theorem key_nan {x : Nat} (_ : x < 18446744073709551616) (h : Fl.nan x) : fkey x = 9223372036854775808 := by unfold fkey; rw [if_pos h]
theorem key_num {x : Nat} (hx : x < 18446744073709551616) (h : ¬ Fl.nan x) : fkey x < 9223372036854775808 := by
  have := (key_facts x hx).resolve_left (fun t => h t.1)
  omega
theorem rank_nan {x : Nat} (h : Fl.nan x) : (frank x != 4) = false := by unfold frank; rw [if_pos h]; rfl
theorem rank_num {x : Nat} (hx : x < 18446744073709551616) (h : ¬ Fl.nan x) : (frank x != 4) = true := by
  have := (key_facts x hx).resolve_left (fun t => h t.1)
  have h4 : frank x ≠ 4 := by omega
  simpa using h4

theorem Best.nan {ds : List Nat} {k : Nat} {best : Int} (hw : ∀ i, ds.getD i 0 < 18446744073709551616) (h : Best ds k best) (hn : Fl.nan (ds.getD k 0)) : Best ds (k + 1) best := by
  rcases h with ⟨rfl, h⟩ | ⟨b, rfl, h1, h2, h3, h4⟩
  · refine .inl ⟨rfl, fun j hj => ?_⟩
    by_cases c : j = k
    · subst c; exact hn
    · exact h j (by omega)
  · refine .inr ⟨b, rfl, by omega, h2, fun j hj => ?_, h4⟩
    by_cases c : j = k
    · subst c
      have := key_nan (hw j) hn
      have := key_num (hw b) h2
      omega
    · exact h3 j (by omega)

theorem Best.first {ds : List Nat} {k : Nat} (hw : ∀ i, ds.getD i 0 < 18446744073709551616) (h : Best ds k (-1)) (hn : ¬ Fl.nan (ds.getD k 0)) : Best ds (k + 1) (k : Int) := by
  rcases h with ⟨_, h⟩ | ⟨b, e, _⟩
  · have key := key_num (hw k) hn
    refine .inr ⟨k, rfl, by omega, hn, fun j hj => ?_, fun j hj => ?_⟩
    · by_cases c : j = k
      · subst c; omega
      · have := key_nan (hw j) (h j (by omega)); omega
    · have := key_nan (hw j) (h j (by omega)); omega
  · omega

theorem Best.next {ds : List Nat} {k b : Nat} (h : Best ds k (b : Int)) (hn : ¬ Fl.nan (ds.getD k 0)) :
    b < k ∧ (fkey (ds.getD k 0) < fkey (ds.getD b 0) → Best ds (k + 1) (k : Int)) ∧ (¬ fkey (ds.getD k 0) < fkey (ds.getD b 0) → Best ds (k + 1) (b : Int)) := by
  rcases h with ⟨e, _⟩ | ⟨b', e, h1, h2, h3, h4⟩
  · omega
  · obtain rfl : b = b' := by omega
    refine ⟨h1, fun hl => .inr ⟨k, rfl, by omega, hn, fun j hj => ?_, fun j hj => ?_⟩, fun hl => .inr ⟨b, rfl, by omega, h2, fun j hj => ?_, h4⟩⟩
    · by_cases c : j = k
      · subst c; omega
      · have := h3 j (by omega); omega
    · have := h3 j (by omega); omega
    · by_cases c : j = k
      · subst c; omega
      · exact h3 j (by omega)

theorem cmp_neg_iff (x y : Int) : (Dg.cmp x y < 0) = (x < y) := by
  apply propext
  unfold Dg.cmp; split <;> (try split) <;> omega

set_option maxRecDepth 100000 in
set_option maxHeartbeats 1000000 in
theorem least_calls (ao : Option Addr) (n cap : Nat) (ds : List Nat) (w : World) (h : FRow w ao n cap ds) (hw : ∀ i, ds.getD i 0 < 18446744073709551616) :
    Calls Try.prog 10 #[.slice ao n cap] w fun e w' => ∃ r c, e = .returned (.tuple #[.int .i64 r, .int .i64 c]) ∧ LeastIs ds r c ∧ w = w' := by
  have hl1 : n ≤ ds.length := Nat.le_of_eq h.len
  have hl2 : ds.length ≤ n := Nat.le_of_eq h.len.symm
  have hr := h.room
  have hm := h.most
  unfold maxLen at hm
  go_enter Try.func10, Try.ntmps10
  go_wp2_with fail
  go_loop [4, 9] (fun b i => ∃ (k : Nat) (best : Int), k ≤ n ∧ i = .int .i64 k ∧ b = .int .i64 best ∧ Best ds k best) (fun _ i => n - (intOf i).toNat)
  case atStart => exact ⟨0, -1, by omega, rfl, rfl, .inl ⟨rfl, fun j hj => by omega⟩⟩
  case round =>
    obtain ⟨k, best, hk, rfl, rfl, R⟩ := hrel
    by_cases hgo : (k : Int) < (n : Int)
    · obtain ⟨b, off, rfl, hc⟩ := h.cell (by omega)
      have hcx := hc k (by omega)
      have wx := hw k
      have HB := hid_of (fun (hn : Fl.nan (ds.getD k 0)) => Best.nan hw R hn)
      have rn : Hid (Fl.nan (ds.getD k 0) → (frank (ds.getD k 0) != 4) = false) := fun t => rank_nan t
      have rm : Hid (¬ Fl.nan (ds.getD k 0) → (frank (ds.getD k 0) != 4) = true) := fun t => rank_num wx t
      have RC : Hid (∀ w : World, Calls Try.prog 21 #[.float .f64 (ds.getD k 0)] w fun e w' => e = .returned (.int .i64 (frank (ds.getD k 0))) ∧ w = w') := fun w => rank_calls _ wx w
      have B1 := hid_of (fun (e : best = -1) (hn : ¬ Fl.nan (ds.getD k 0)) => Best.first hw (e ▸ R) hn)
      have B2 := hid_of (fun (b : Nat) (e : best = (b : Int)) (hn : ¬ Fl.nan (ds.getD k 0)) => Best.next (b := b) (e ▸ R) hn)
      have SC : Hid (∀ (b : Nat) (w : World), Calls Try.prog 8 #[.float .f64 (ds.getD k 0), .float .f64 (ds.getD b 0)] w fun e w' => e = .returned (.int .i64 (Dg.cmp (fkey (ds.getD k 0)) (fkey (ds.getD b 0)))) ∧ w = w') := fun b w => strict_calls _ _ wx (hw b) w
      have HC : Hid (∀ i, i < n → w.cell? ⟨b, off + i, none⟩ = some (.float .f64 (ds.getD i 0))) := hc
      have cs : best = -1 ∨ ∃ b : Nat, best = (b : Int) := R.elim (fun t => .inl t.1) (fun ⟨b, e, _⟩ => .inr ⟨b, e⟩)
      clear hc R
      generalize ds.getD k 0 = x at hcx wx HB rn rm RC B1 B2 SC
      by_cases hn : Fl.nan x
      · have q := rn.out hn
        have B := hid_of (HB.out hn)
        clear rn rm B1 B2 SC HB cs
        go_wp2_with (go_at_call 21; refine (RC.out _).mono ?_; rintro e w' ⟨rfl, rfl⟩)
        go_round
        case rel => exact ⟨k + 1, best, by omega, by go_num, rfl, B.out⟩
        case measure => simp [intOf]; omega
      · have q := rm.out hn
        rcases cs with rfl | ⟨b', rfl⟩
        · have B := hid_of (B1.out rfl hn)
          clear rn rm B1 B2 SC HB
          go_wp2_with (go_at_call 21; refine (RC.out _).mono ?_; rintro e w' ⟨rfl, rfl⟩)
          go_round
          case rel => exact ⟨k + 1, k, by omega, by go_num, rfl, B.out⟩
          case measure => simp [intOf]; omega
        · obtain ⟨hbk, B3, B4⟩ := B2.out b' rfl hn
          have hcb := HC.out b' (by omega)
          have HS : Hid (∀ w : World, Calls Try.prog 8 #[.float .f64 x, .float .f64 (ds.getD b' 0)] w fun e w' => e = .returned (.int .i64 (Dg.cmp (fkey x) (fkey (ds.getD b' 0)))) ∧ w = w') := fun w => SC.out b' w
          clear rn rm B1 B2 SC HB
          generalize ds.getD b' 0 = y at hcb HS B3 B4
          by_cases hlt : fkey x < fkey y
          · have B := hid_of (B3 hlt)
            have hd : decide (Dg.cmp (fkey x) (fkey y) < 0) = true := decide_eq_true (by rw [cmp_neg_iff]; exact hlt)
            clear B3 B4
            go_wp2_with (first | (go_at_call 21; refine (RC.out _).mono ?_; rintro e w' ⟨rfl, rfl⟩) | (go_at_call 8; refine (HS.out _).mono ?_; rintro e w' ⟨rfl, rfl⟩))
            go_round
            case rel => exact ⟨k + 1, k, by omega, by go_num, rfl, B.out⟩
            case measure => simp [intOf]; omega
          · have B := hid_of (B4 hlt)
            have hd : decide (Dg.cmp (fkey x) (fkey y) < 0) = false := decide_eq_false (by rw [cmp_neg_iff]; exact hlt)
            clear B3 B4
            go_wp2_with (first | (go_at_call 21; refine (RC.out _).mono ?_; rintro e w' ⟨rfl, rfl⟩) | (go_at_call 8; refine (HS.out _).mono ?_; rintro e w' ⟨rfl, rfl⟩))
            go_round
            case rel => exact ⟨k + 1, b', by omega, by go_num, rfl, B.out⟩
            case measure => simp [intOf]; omega
    · obtain rfl : k = ds.length := by omega
      rcases R.done with ⟨rfl, hL⟩ | ⟨h0, hL⟩
      · have HL := hid_of hL
        clear hL R
        go_wp2
        go_ret2
        exact ⟨_, _, rfl, HL.out, rfl⟩
      · have HL := hid_of hL
        have hd : decide (best < 0) = false := decide_eq_false (by omega)
        clear hL R
        go_wp2
        go_ret2
        exact ⟨_, _, rfl, HL.out, rfl⟩
end Go.Proofs.Ytikmollocchfnab
