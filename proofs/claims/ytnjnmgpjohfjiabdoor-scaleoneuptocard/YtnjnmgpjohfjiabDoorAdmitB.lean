/- Admit, in the program. -/
import Derived.Test.YtnjnmgpjohfjiabDoorAdmitA
import Derived.OwnWalk
namespace Go.Proofs.YtnjnmgpjohfjiabDoor
open Go.RowKit

/-- The least exponent of the first k labels, and whether one of them is not nought. -/
def comTo (ds : List Nat) : Nat → Bool × Int
  | 0 => (false, 0)
  | k + 1 => if podd (ds.getD k 0) ≠ 0 ∧ ((comTo ds k).1 = false ∨ pexp (ds.getD k 0) < (comTo ds k).2) then (true, pexp (ds.getD k 0)) else comTo ds k

theorem comTo_bd (ds : List Nat) (k : Nat) : -1074 ≤ (comTo ds k).2 ∧ (comTo ds k).2 ≤ 1024 := by
  induction k with
  | zero => exact ⟨by show (-1074 : Int) ≤ 0; omega, by show (0 : Int) ≤ 1024; omega⟩
  | succ k ih =>
    unfold comTo
    split
    · exact pexp_bd _
    · exact ih

theorem comTo_least (ds : List Nat) (k : Nat) : ∀ j, j < k → podd (ds.getD j 0) ≠ 0 → (comTo ds k).1 = true ∧ (comTo ds k).2 ≤ pexp (ds.getD j 0) := by
  induction k with
  | zero => intro j hj; omega
  | succ k ih =>
    intro j hj hne
    unfold comTo
    by_cases e : j = k
    · subst e
      split
      · exact ⟨rfl, Int.le_refl _⟩
      · rename_i c
        have c1 : ¬ ((comTo ds j).1 = false ∨ pexp (ds.getD j 0) < (comTo ds j).2) := fun t => c ⟨hne, t⟩
        have c2 : ¬ (comTo ds j).1 = false := fun t => c1 (.inl t)
        have c3 : ¬ pexp (ds.getD j 0) < (comTo ds j).2 := fun t => c1 (.inr t)
        exact ⟨by simpa using c2, by omega⟩
    · obtain ⟨i1, i2⟩ := ih j (by omega) hne
      split
      · rename_i c
        refine ⟨rfl, ?_⟩
        rcases c.2 with t | t
        · rw [i1] at t; cases t
        · show pexp (ds.getD k 0) ≤ _; omega
      · exact ⟨i1, i2⟩

set_option maxRecDepth 100000 in
set_option maxHeartbeats 2000000 in
theorem common_calls (ao : Option Addr) (n cap : Nat) (ds : List Nat) (w : World) (h : FRow w ao n cap ds) (hw : ∀ i, ds.getD i 0 < 18446744073709551616) (hT : Tab w) :
    Calls Tryd.prog 18 #[.slice ao n cap] w fun e w' => e = .returned (.int .i64 (comTo ds n).2) ∧ w = w' := by
  have hl1 : n ≤ ds.length := Nat.le_of_eq h.len
  have hl2 : ds.length ≤ n := Nat.le_of_eq h.len.symm
  have hr := h.room
  have hm := h.most
  unfold maxLen at hm
  have hnot : ∀ (x : Bool) (w : World), (Op.unary .not (.bool x)).run Tryd.prog w = .ok (.bool (!x)) w := fun _ _ => rfl
  go_enter Tryd.func18, Tryd.ntmps18
  go_wp2_with fail
  go_loop [3, 4, 11] (fun l f i => ∃ (k : Nat), k ≤ n ∧ i = .int .i64 k ∧ l = .int .i64 (comTo ds k).2 ∧ f = .bool (comTo ds k).1) (fun _ _ i => n - (intOf i).toNat)
  case atStart => exact ⟨0, by omega, rfl, rfl, rfl⟩
  case round =>
    obtain ⟨k, hk, rfl, rfl, rfl⟩ := hrel
    by_cases hgo : (k : Int) < (n : Int)
    · obtain ⟨b, off, rfl, hc⟩ := h.cell (by omega)
      have hcx := hc k (by omega)
      have wx := hw k
      have hs : comTo ds (k + 1) = if podd (ds.getD k 0) ≠ 0 ∧ ((comTo ds k).1 = false ∨ pexp (ds.getD k 0) < (comTo ds k).2) then (true, pexp (ds.getD k 0)) else comTo ds k := rfl
      have HS := hid_of hs
      have C := hid_of (fun (w : World) (t : Tab w) => part_calls (ds.getD k 0) wx w t)
      clear hc hs
      generalize ds.getD k 0 = x at hcx wx HS C
      obtain ⟨f, l, hfl⟩ : ∃ f l, comTo ds k = (f, l) := ⟨_, _, rfl⟩
      rw [hfl] at HS ⊢
      clear hfl
      simp only at HS ⊢
      generalize podd x = o at HS C
      generalize pexp x = p at HS C
      by_cases ho : o = 0
      · have q1 : ((o : Int) != 0) = false := by simp [ho]
        have E : Hid (comTo ds (k + 1) = (f, l)) := by rw [HS.out, if_neg (fun t => t.1 ho)]; exact rfl
        clear HS ho
        go_wp2_with (go_at_call 33; refine (C.out _ hT).mono ?_; rintro e w' ⟨rfl, rfl⟩)
        go_round
        case rel => exact ⟨k + 1, by omega, by go_num, by rw [E.out], by rw [E.out]⟩
        case measure => simp [intOf]; omega
      · have q1 : ((o : Int) != 0) = true := by simp [ho]
        cases f
        · have E : Hid (comTo ds (k + 1) = (true, p)) := by rw [HS.out, if_pos ⟨ho, .inl rfl⟩]; exact rfl
          clear HS ho
          go_wp2_with (go_at_call 33; refine (C.out _ hT).mono ?_; rintro e w' ⟨rfl, rfl⟩)
          go_round
          case rel => exact ⟨k + 1, by omega, by go_num, by rw [E.out], by rw [E.out]⟩
          case measure => simp [intOf]; omega
        · by_cases hp : p < l
          · have E : Hid (comTo ds (k + 1) = (true, p)) := by rw [HS.out, if_pos ⟨ho, .inr hp⟩]; exact rfl
            clear HS ho
            go_wp2_with (go_at_call 33; refine (C.out _ hT).mono ?_; rintro e w' ⟨rfl, rfl⟩)
            go_round
            case rel => exact ⟨k + 1, by omega, by go_num, by rw [E.out], by rw [E.out]⟩
            case measure => simp [intOf]; omega
          · have E : Hid (comTo ds (k + 1) = (true, l)) := by rw [HS.out, if_neg (fun t => by rcases t.2 with q | q; cases q; exact hp q)]; exact rfl
            clear HS ho
            go_wp2_with (go_at_call 33; refine (C.out _ hT).mono ?_; rintro e w' ⟨rfl, rfl⟩)
            go_round
            case rel => exact ⟨k + 1, by omega, by go_num, by rw [E.out], by rw [E.out]⟩
            case measure => simp [intOf]; omega
    · obtain rfl : k = n := by omega
      go_wp2
      go_ret
      exact ⟨rfl, rfl⟩

/-- How many times 2^e a label is, without its sign and with it. -/
def wmag (x : Nat) (e : Int) : Nat := podd x * 2 ^ (pexp x - e).toNat
def wnum (x : Nat) (e : Int) : Int := if fneg x = true then -(wmag x e : Int) else (wmag x e : Int)

theorem sr_neg (x : Nat) (hx : x < 18446744073709551616) (hn : ¬ Fl.nan x) (h0 : podd x ≠ 0) : (FloatKind.f64.format.order x 0 == some .lt) = fneg x := by
  rw [flt x 0 hn not_nan_zero, sr_zero]
  have hd : digs x ≠ 0 := fun t => by
    rcases part_facts x with ⟨_, h, _⟩ | ⟨h, _⟩
    · exact h0 h
    · exact h t
  have hr : x % 9223372036854775808 ≠ 0 := fun t => hd (by unfold digs; rw [if_neg (by omega)]; omega)
  unfold Fl.sr fneg
  by_cases c : 9223372036854775808 ≤ x
  · rw [if_pos (by omega), decide_eq_true c, decide_eq_true (by omega)]
  · rw [if_neg (by omega), decide_eq_false c, decide_eq_false (by omega)]

set_option maxRecDepth 100000 in
set_option maxHeartbeats 2000000 in
theorem wholeOf_calls (x : Nat) (e : Int) (most : Int) (w : World) (hx : x < 18446744073709551616) (hn : ¬ Fl.nan x) (e1 : -1074 ≤ e) (e2 : e ≤ 1024) (he : podd x ≠ 0 → e ≤ pexp x) (m1 : 1 ≤ most) (m2 : most ≤ 9007199254740992) (hT : Tab w) (r : Int) (b : Bool)
    (hr : Hid ((wmag x e : Int) ≤ most ∧ b = true ∧ r = wnum x e ∨ most < (wmag x e : Int) ∧ b = false ∧ r = 0)) :
    Calls Tryd.prog 19 #[.float .f64 x, .int .i64 e, .int .i64 most] w fun v w' => v = .returned (.tuple #[.int .i64 r, .bool b]) ∧ w = w' := by
  have C := hid_of (part_calls x hx w hT)
  obtain ⟨p1, p2⟩ := pexp_bd x
  by_cases h0 : podd x = 0
  · have hm : wmag x e = 0 := by unfold wmag; rw [h0, Nat.zero_mul]
    obtain ⟨rfl, rfl⟩ : b = true ∧ r = 0 := by
      rcases hr.out with ⟨_, h1, h2⟩ | ⟨h1, _⟩
      · refine ⟨h1, ?_⟩
        rw [h2]; unfold wnum; rw [hm]; split <;> rfl
      · rw [hm] at h1; omega
    rw [h0] at C
    clear hr he h0 hm
    go_enter Tryd.func19, Tryd.ntmps19
    go_wp2_with (go_at_call 33; refine C.out.mono ?_; rintro e w' ⟨rfl, rfl⟩)
    go_ret2
    exact ⟨rfl, rfl⟩
  have he' := he h0
  have hlt := sr_neg x hx hn h0
  have hodd : podd x < 9007199254740992 := by
    rcases part_facts x with ⟨_, h, _⟩ | ⟨_, _, h, _⟩
    · omega
    · exact h
  obtain ⟨s, hs⟩ : ∃ s : Nat, (pexp x - e).toNat = s := ⟨_, rfl⟩
  have hs' : pexp x - e = (s : Int) := by omega
  obtain ⟨M, hM⟩ : ∃ M : Nat, most = (M : Int) := ⟨most.toNat, by omega⟩
  have hwm : wmag x e = podd x * 2 ^ s := by unfold wmag; rw [hs]
  have hwn : wnum x e = if fneg x = true then -((podd x * 2 ^ s : Nat) : Int) else ((podd x * 2 ^ s : Nat) : Int) := by unfold wnum; rw [hwm]
  rw [hwm, hwn] at hr
  have q0 : ((podd x : Int) == 0) = false := by simp [h0]
  have hdiv : ((M : Int) / 2 ^ s < (podd x : Int)) ↔ M < podd x * 2 ^ s := by
    rw [two_pow_int, ← Int.natCast_ediv]
    rw [Int.ofNat_lt, Nat.div_lt_iff_lt_mul (Nat.two_pow_pos s)]
  have ho : 0 < podd x := by omega
  generalize podd x = o at C q0 hodd hdiv hr ho
  generalize hp : pexp x = p at C hs' p1 p2
  subst hM
  clear hwm hwn hs he he' hp
  by_cases hf : M < o * 2 ^ s
  · obtain ⟨rfl, rfl⟩ : b = false ∧ r = 0 := by
      rcases hr.out with ⟨h1, _⟩ | ⟨_, h1, h2⟩
      · omega
      · exact ⟨h1, h2⟩
    have hd : (M : Int) / 2 ^ min s 64 < (o : Int) := by
      by_cases c : s ≤ 64
      · rw [Nat.min_eq_left c]; exact hdiv.2 hf
      · rw [Nat.min_eq_right (by omega)]
        have : (2 : Int) ^ 64 = 18446744073709551616 := by decide
        rw [this]; omega
    clear hr hdiv hf
    go_enter Tryd.func19, Tryd.ntmps19
    go_wp2_with (go_at_call 33; refine C.out.mono ?_; rintro e w' ⟨rfl, rfl⟩)
    go_ret2
    exact ⟨rfl, rfl⟩
  · have hd : ¬ ((M : Int) / 2 ^ s < (o : Int)) := fun t => hf (hdiv.1 t)
    have hs64 : s ≤ 53 := by
      by_cases c : s ≤ 53
      · exact c
      · have h1 : 2 ^ 54 ≤ 2 ^ s := Nat.pow_le_pow_right (by omega) (by omega)
        have h2 : 1 * 2 ^ s ≤ o * 2 ^ s := Nat.mul_le_mul_right _ ho
        omega
    have hwr : IntKind.u64.wrap ((o : Int) * 2 ^ s) = ((o * 2 ^ s : Nat) : Int) := by rw [two_pow_int, ← Int.natCast_mul]; exact uwrap _ (by omega)
    obtain ⟨rfl, rfl⟩ : b = true ∧ r = if fneg x = true then -((o * 2 ^ s : Nat) : Int) else ((o * 2 ^ s : Nat) : Int) := by
      rcases hr.out with ⟨_, h1, h2⟩ | ⟨h1, _⟩
      · exact ⟨h1, h2⟩
      · omega
    generalize o * 2 ^ s = N at hf hwr
    clear hr hdiv
    by_cases hg : fneg x = true
    · rw [if_pos hg]
      rw [hg] at hlt
      clear hg
      go_enter Tryd.func19, Tryd.ntmps19
      go_wp2_with (go_at_call 33; refine C.out.mono ?_; rintro e w' ⟨rfl, rfl⟩)
      go_ret2
      exact ⟨rfl, rfl⟩
    · rw [if_neg hg]
      have hg' : fneg x = false := by simpa using hg
      rw [hg'] at hlt
      clear hg hg'
      go_enter Tryd.func19, Tryd.ntmps19
      go_wp2_with (go_at_call 33; refine C.out.mono ?_; rintro e w' ⟨rfl, rfl⟩)
      go_ret2
      exact ⟨rfl, rfl⟩
end Go.Proofs.YtnjnmgpjohfjiabDoor
