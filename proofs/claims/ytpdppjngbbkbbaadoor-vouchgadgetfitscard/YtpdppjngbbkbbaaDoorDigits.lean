/- Numbers by their digits in base 65536, the lowest first: plain mathematics, nothing of the program. -/
import Derived.WalkKit
namespace Go.Proofs.YtpdppjngbbkbbaaDoor.Dg

def val : List Nat → Nat
  | [] => 0
  | d :: ds => d + 65536 * val ds

def Ok (ds : List Nat) : Prop := ∀ i, ds.getD i 0 < 65536
def Canon (ds : List Nat) : Prop := Ok ds ∧ (ds ≠ [] → ds.getD (ds.length - 1) 0 ≠ 0)

theorem val_snoc (ds : List Nat) (d : Nat) : val (ds ++ [d]) = val ds + 65536 ^ ds.length * d := by
  induction ds with
  | nil => simp [val]
  | cons x xs ih =>
    simp only [List.cons_append, val, ih, List.length_cons, Nat.pow_succ]
    rw [Nat.mul_add, ← Nat.mul_assoc, Nat.mul_comm 65536 (65536 ^ xs.length)]
    omega

theorem ok_nil : Ok [] := fun i => by simp
theorem ok_tail {d : Nat} {ds : List Nat} (h : Ok (d :: ds)) : Ok ds := fun i => by simpa using h (i + 1)
theorem ok_head {d : Nat} {ds : List Nat} (h : Ok (d :: ds)) : d < 65536 := by simpa using h 0

theorem val_lt {ds : List Nat} (h : Ok ds) : val ds < 65536 ^ ds.length := by
  induction ds with
  | nil => simp [val]
  | cons x xs ih =>
    have h1 := ih (ok_tail h)
    have h2 := ok_head h
    simp only [val, List.length_cons, Nat.pow_succ]
    omega

theorem take_snoc (ds : List Nat) (k : Nat) (h : k < ds.length) : ds.take (k + 1) = ds.take k ++ [ds.getD k 0] := by
  rw [List.take_succ_eq_append_getElem h]
  simp [List.getD, h]

theorem val_take_succ (ds : List Nat) (k : Nat) (h : k < ds.length) : val (ds.take (k + 1)) = val (ds.take k) + 65536 ^ k * ds.getD k 0 := by
  rw [take_snoc ds k h, val_snoc, List.length_take, Nat.min_eq_left (by omega)]

/-- Also past the end: there the digit is nought. -/
theorem val_take_step (ds : List Nat) (k : Nat) : val (ds.take (k + 1)) = val (ds.take k) + 65536 ^ k * ds.getD k 0 := by
  by_cases h : k < ds.length
  · exact val_take_succ ds k h
  · rw [List.take_of_length_le (by omega), List.take_of_length_le (by omega)]
    have : ds.getD k 0 = 0 := by simp [List.getD, List.getElem?_eq_none (by omega : ds.length ≤ k)]
    rw [this]; simp

theorem val_take_all (ds : List Nat) (k : Nat) (h : ds.length ≤ k) : val (ds.take k) = val ds := by rw [List.take_of_length_le h]

theorem ok_take {ds : List Nat} (h : Ok ds) (k : Nat) : Ok (ds.take k) := fun i => by
  have := h i
  simp only [List.getD, List.getElem?_take] at this ⊢
  split
  · exact this
  · simp

theorem ok_snoc {ds : List Nat} (h : Ok ds) {d : Nat} (hd : d < 65536) : Ok (ds ++ [d]) := fun i => by
  have := h i
  simp only [List.getD, List.getElem?_append] at this ⊢
  split
  · exact this
  · by_cases e : i - ds.length = 0
    · simp [e, hd]
    · have : ([d] : List Nat)[i - ds.length]? = none := List.getElem?_eq_none (by simp; omega)
      simp [this]

theorem val_take_lt {ds : List Nat} (h : Ok ds) (k : Nat) : val (ds.take k) < 65536 ^ k := by
  have h1 := val_lt (ok_take h k)
  have h2 : (ds.take k).length ≤ k := List.length_take_le _ _
  exact Nat.lt_of_lt_of_le h1 (Nat.pow_le_pow_right (by decide) h2)

/-- noughts at the end don't count. -/
theorem val_drop_zero (ds : List Nat) (k : Nat) (hz : ds.getD k 0 = 0) : val (ds.take (k + 1)) = val (ds.take k) := by
  rw [val_take_step, hz]; simp

theorem canon_ge {ds : List Nat} (h : Canon ds) (hn : ds ≠ []) : 65536 ^ (ds.length - 1) ≤ val ds := by
  have hl : 0 < ds.length := List.length_pos_iff.2 hn
  have h1 := val_take_succ ds (ds.length - 1) (by omega)
  rw [show ds.length - 1 + 1 = ds.length from by omega, List.take_length] at h1
  have h2 := h.2 hn
  have h3 : 65536 ^ (ds.length - 1) * 1 ≤ 65536 ^ (ds.length - 1) * ds.getD (ds.length - 1) 0 := Nat.mul_le_mul_left _ (by omega)
  omega

theorem canon_zero {ds : List Nat} (h : Canon ds) : val ds = 0 ↔ ds = [] := by
  constructor
  · intro h0
    by_cases hn : ds = []
    · exact hn
    · have := canon_ge h hn
      have h2 : 0 < 65536 ^ (ds.length - 1) := Nat.pow_pos (by decide)
      omega
  · rintro rfl; rfl

theorem canon_nil : Canon [] := ⟨ok_nil, fun h => absurd rfl h⟩

/-- A number below so many digits has no more digits. -/
theorem canon_len {ds : List Nat} (h : Canon ds) {L : Nat} (hv : val ds < 65536 ^ L) : ds.length ≤ L := by
  by_cases hn : ds = []
  · subst hn; simp
  · have := canon_ge h hn
    have h2 : 65536 ^ (ds.length - 1) < 65536 ^ L := by omega
    have := (Nat.pow_lt_pow_iff_right (by decide : 1 < 65536)).1 h2
    have hl : 0 < ds.length := List.length_pos_iff.2 hn
    omega

theorem len_lt {a b : List Nat} (ha : Canon a) (hb : Canon b) (h : a.length < b.length) : val a < val b := by
  have hn : b ≠ [] := by intro e; subst e; simp at h
  have h1 := val_lt ha.1
  have h2 := canon_ge hb hn
  have h3 : 65536 ^ a.length ≤ 65536 ^ (b.length - 1) := Nat.pow_le_pow_right (by decide) (by omega)
  omega

/-- -1, 0 or 1. -/
def cmp (x y : Int) : Int := if x < y then -1 else if x = y then 0 else 1
theorem cmp_lt {x y : Int} (h : x < y) : cmp x y = -1 := by unfold cmp; rw [if_pos h]
theorem cmp_eq {x y : Int} (h : x = y) : cmp x y = 0 := by unfold cmp; rw [if_neg (by omega), if_pos h]
theorem cmp_gt {x y : Int} (h : y < x) : cmp x y = 1 := by unfold cmp; rw [if_neg (by omega), if_neg (by omega)]
theorem cmp_bd (x y : Int) : -1 ≤ cmp x y ∧ cmp x y ≤ 1 := by unfold cmp; split <;> (try split) <;> omega

/-- Held against each other from the highest digit down. -/
theorem top_lt {a b : List Nat} (ha : Ok a) (i : Nat) (h : a.getD i 0 < b.getD i 0) : val (a.take (i + 1)) < val (b.take (i + 1)) := by
  rw [val_take_step, val_take_step]
  have h1 := val_take_lt ha i
  have h2 : 65536 ^ i * (a.getD i 0 + 1) ≤ 65536 ^ i * b.getD i 0 := Nat.mul_le_mul_left _ h
  rw [Nat.mul_add] at h2
  omega
theorem top_eq {a b : List Nat} (i : Nat) (h : a.getD i 0 = b.getD i 0) (d : Int) (hd : d = (val (a.take (i + 1)) : Int) - val (b.take (i + 1))) : d = (val (a.take i) : Int) - val (b.take i) := by
  rw [val_take_step, val_take_step, h] at hd
  omega

/-- One step of a sum: the digit and the carry. -/
theorem plus_step (P A B D a b c : Nat) (h : D + P * c = A + B) : (D + P * ((a + b + c) % 65536)) + P * 65536 * ((a + b + c) / 65536) = (A + P * a) + (B + P * b) := by
  have e : (a + b + c) % 65536 + 65536 * ((a + b + c) / 65536) = a + b + c := Nat.mod_add_div _ _
  have e2 : P * ((a + b + c) % 65536) + P * (65536 * ((a + b + c) / 65536)) = P * (a + b + c) := by rw [← Nat.mul_add, e]
  rw [← Nat.mul_assoc] at e2
  simp only [Nat.mul_add] at e2
  omega

/-- One step of a difference: the digit and the borrow. -/
theorem less_step (P A B D a b c : Nat) (hb : b < 65536) (hc : c ≤ 1) (h : D + B = A + P * c) :
    (D + P * ((a + 65536 - b - c) % 65536)) + (B + P * b) = (A + P * a) + P * 65536 * (1 - (a + 65536 - b - c) / 65536) ∨ 65536 ≤ a := by
  by_cases ha : 65536 ≤ a
  · exact .inr ha
  · left
    by_cases hx : 65536 ≤ a + 65536 - b - c
    · have e1 : (a + 65536 - b - c) / 65536 = 1 := by omega
      have e2 : (a + 65536 - b - c) % 65536 = a - b - c := by omega
      have e3 : a = (a - b - c) + b + c := by omega
      rw [e1, e2]
      have e4 : P * a = P * ((a - b - c) + b + c) := by rw [← e3]
      simp only [Nat.mul_add] at e4
      simp
      omega
    · have e1 : (a + 65536 - b - c) / 65536 = 0 := by omega
      have e2 : (a + 65536 - b - c) % 65536 = a + 65536 - b - c := by omega
      have e3 : a + 65536 = (a + 65536 - b - c) + b + c := by omega
      rw [e1, e2]
      have e4 : P * (a + 65536) = P * ((a + 65536 - b - c) + b + c) := by rw [← e3]
      simp only [Nat.mul_add] at e4
      simp
      omega

/-- One step of a product: digit d of the sum so far, the carry, a digit of each. -/
theorem times_step (P D0 A c d p : Nat) (h : D0 + P * d + P * c = A) : (D0 + P * ((d + c + p) % 65536)) + P * 65536 * ((d + c + p) / 65536) = A + P * p := by
  have e : (d + c + p) % 65536 + 65536 * ((d + c + p) / 65536) = d + c + p := Nat.mod_add_div _ _
  have e2 : P * ((d + c + p) % 65536) + P * (65536 * ((d + c + p) / 65536)) = P * (d + c + p) := by rw [← Nat.mul_add, e]
  rw [← Nat.mul_assoc] at e2
  simp only [Nat.mul_add] at e2
  omega

/-- A digit changed. -/
theorem val_set (ds : List Nat) (k x : Nat) (h : k < ds.length) : val (ds.set k x) + 65536 ^ k * ds.getD k 0 = val ds + 65536 ^ k * x := by
  induction ds generalizing k with
  | nil => simp at h
  | cons d ds ih =>
    cases k with
    | zero => simp [val]; omega
    | succ k =>
      have := ih k (by simpa using h)
      simp only [List.set_cons_succ, val, Nat.pow_succ, List.getD_cons_succ]
      have e1 : 65536 ^ k * 65536 * ds.getD k 0 = 65536 * (65536 ^ k * ds.getD k 0) := by rw [Nat.mul_comm (65536 ^ k) 65536, Nat.mul_assoc]
      have e2 : 65536 ^ k * 65536 * x = 65536 * (65536 ^ k * x) := by rw [Nat.mul_comm (65536 ^ k) 65536, Nat.mul_assoc]
      rw [e1, e2]
      omega

theorem ok_set {ds : List Nat} (h : Ok ds) (k x : Nat) (hx : x < 65536) : Ok (ds.set k x) := fun i => by
  have := h i
  simp only [List.getD, List.getElem?_set] at this ⊢
  split
  · split <;> simp [hx]
  · exact this

theorem val_zeros (n : Nat) : val (List.replicate n 0) = 0 := by
  induction n with
  | zero => rfl
  | succ n ih => simp [List.replicate_succ, val, ih]
theorem ok_zeros (n : Nat) : Ok (List.replicate n 0) := fun i => by
  simp only [List.getD, List.getElem?_replicate]
  split <;> simp

end Go.Proofs.YtpdppjngbbkbbaaDoor.Dg
