/- The document's numbers of any length held against each other, and brought back to 64 bits. -/
import Derived.Test.YtikmollocchfnabSmall
namespace Go.Proofs.Ytikmollocchfnab
open Go.RowKit

set_option maxHeartbeats 1000000 in
theorem above_calls (ao bo : Option Addr) (n1 c1 n2 c2 : Nat) (da db : List Nat) (w : World) (ha : Row w ao n1 c1 da) (hb : Row w bo n2 c2 db) (ka : Dg.Canon da) (kb : Dg.Canon db) :
    Calls Try.prog 29 #[.slice ao n1 c1, .slice bo n2 c2] w fun e w' => e = .returned (.int .i64 (Dg.cmp (Dg.val da) (Dg.val db))) ∧ ∃ m, w' = w.drewN m := by
  have la1 : n1 ≤ da.length := Nat.le_of_eq ha.len
  have la2 : da.length ≤ n1 := Nat.le_of_eq ha.len.symm
  have lb1 : n2 ≤ db.length := Nat.le_of_eq hb.len
  have lb2 : db.length ≤ n2 := Nat.le_of_eq hb.len.symm
  have ma := ha.most
  have ra := ha.room
  have mb := hb.most
  have rb := hb.room
  unfold maxLen at ma mb
  by_cases hne : n1 = n2
  · subst hne
    have hq : ((n1 : Int) != (n1 : Int)) = false := by simp
    go_enter Try.func29, Try.ntmps29
    go_wp2
    go_loopw [5] (fun i wr => ∃ k : Nat, k ≤ n1 ∧ i = .int .i64 ((k : Int) - 1) ∧ ((Dg.val da : Int) - Dg.val db = (Dg.val (da.take k) : Int) - Dg.val (db.take k)) ∧ ∃ m, wr = w.drewN m) (fun i _ => (intOf i + 1).toNat)
    case atStart => exact ⟨n1, Nat.le_refl _, rfl, by rw [Dg.val_take_all _ _ la2, Dg.val_take_all _ _ lb2], 0, rfl⟩
    case round =>
      obtain ⟨k, hk, rfl, hv, m, rfl⟩ := hrel
      have HV : Hid ((Dg.val da : Int) - Dg.val db = (Dg.val (da.take k) : Int) - Dg.val (db.take k)) := hv
      clear hv
      by_cases hk0 : 0 < k
      · obtain ⟨b1, o1, rfl, g1⟩ := ha.cell (by omega)
        obtain ⟨b2, o2, rfl, g2⟩ := hb.cell (by omega)
        have q1 := g1 (k - 1) (by omega)
        have q2 := g2 (k - 1) (by omega)
        clear g1 g2
        obtain ⟨x, hx⟩ : ∃ x, x = da.getD (k - 1) 0 := ⟨_, rfl⟩
        obtain ⟨y, hy⟩ : ∃ y, y = db.getD (k - 1) 0 := ⟨_, rfl⟩
        rw [← hx] at q1
        rw [← hy] at q2
        have HX : Hid (x = da.getD (k - 1) 0) := hx
        have HY : Hid (y = db.getD (k - 1) 0) := hy
        clear hx hy
        have i1 : (0 : Int) ≤ (k : Int) - 1 := by omega
        have i2 : (k : Int) - 1 < (n1 : Int) := by omega
        go_wp2
        go_quiet (fail)
        by_cases hlt : (x : Int) < (y : Int)
        · go_wp2
          go_ret
          refine ⟨ret_int ?_, (by first | exact ⟨_, rfl⟩ | exact ⟨_, World.drewN_drewN ..⟩)⟩
          have e := Dg.top_lt ka.1 (b := db) (k - 1) (by rw [← HX.out, ← HY.out]; omega)
          rw [show k - 1 + 1 = k from by omega] at e
          have := HV.out
          rw [Dg.cmp_lt (by omega)]
        · go_wp2
          go_quiet (fail)
          by_cases hgt : (y : Int) < (x : Int)
          · go_wp2
            go_ret
            refine ⟨ret_int ?_, (by first | exact ⟨_, rfl⟩ | exact ⟨_, World.drewN_drewN ..⟩)⟩
            have e := Dg.top_lt kb.1 (b := da) (k - 1) (by rw [← HX.out, ← HY.out]; omega)
            rw [show k - 1 + 1 = k from by omega] at e
            have := HV.out
            rw [Dg.cmp_gt (by omega)]
          · go_wp2
            go_roundw
            case rel =>
              refine ⟨k - 1, by omega, by go_num, ?_, (by first | exact ⟨_, rfl⟩ | exact ⟨_, World.drewN_drewN ..⟩)⟩
              exact Dg.top_eq (k - 1) (by rw [← HX.out, ← HY.out]; omega) _ (by rw [show k - 1 + 1 = k from by omega]; exact HV.out)
            case measure => simp [intOf]; omega
      · obtain rfl : k = 0 := by omega
        go_wp2
        go_ret
        refine ⟨ret_int ?_, (by first | exact ⟨_, rfl⟩ | exact ⟨_, World.drewN_drewN ..⟩)⟩
        have := HV.out
        simp [Dg.val] at this
        rw [Dg.cmp_eq (by omega)]
  · have hq : ((n1 : Int) != (n2 : Int)) = true := by simp; omega
    by_cases hlt : (n1 : Int) < (n2 : Int)
    · go_enter Try.func29, Try.ntmps29
      go_wp2
      go_ret
      refine ⟨ret_int ?_, 0, rfl⟩
      have := Dg.len_lt ka kb (by omega)
      rw [Dg.cmp_lt (by omega)]
    · go_enter Try.func29, Try.ntmps29
      go_wp2
      go_ret
      refine ⟨ret_int ?_, 0, rfl⟩
      have := Dg.len_lt kb ka (by omega)
      rw [Dg.cmp_gt (by omega)]

theorem cmp_neg (x y : Int) : Dg.cmp (-x) (-y) = Dg.cmp y x := by
  rcases Int.lt_trichotomy x y with h | h | h
  · rw [Dg.cmp_gt (by omega), Dg.cmp_gt (by omega)]
  · rw [Dg.cmp_eq (by omega), Dg.cmp_eq (by omega)]
  · rw [Dg.cmp_lt (by omega), Dg.cmp_lt (by omega)]

theorem val_pos {ds : List Nat} (h : Dg.Canon ds) (hn : ds ≠ []) : 0 < Dg.val ds := by
  have : Dg.val ds ≠ 0 := fun e => hn ((Dg.canon_zero h).1 e)
  omega

set_option maxHeartbeats 1000000 in
theorem compare_calls (v1 v2 : Value) (z1 z2 : Int) (w : World) (h1 : BigAt w v1 z1) (h2 : BigAt w v2 z2) :
    Calls Try.prog 19 #[v1, v2] w fun e w' => e = .returned (.int .i64 (Dg.cmp z1 z2)) ∧ Kept w w' := by
  obtain ⟨m1, ao, n1, c1, da, rfl, ra, ka, sa, ea⟩ := h1.ex
  obtain ⟨m2, bo, n2, c2, db, rfl, rb, kb, sb, eb⟩ := h2.ex
  clear h1 h2
  have K2 : ∀ o1 o2, Kept w ((w.alloc o1).alloc o2) := fun o1 o2 => ((Kept.refl _).alloc _).alloc _
  have HE : Hid (z1 = (if m1 then -(Dg.val da : Int) else (Dg.val da : Int)) ∧ z2 = (if m2 then -(Dg.val db : Int) else (Dg.val db : Int))) := ⟨ea, eb⟩
  have HS : Hid ((m1 = true → da ≠ []) ∧ (m2 = true → db ≠ [])) := ⟨sa, sb⟩
  clear ea eb sa sb
  cases m1 <;> cases m2
  · go_enter Try.func19, Try.ntmps19
    go_wp2_with fail
    refine (above_calls _ _ _ _ _ _ da db _ (ra.kept (K2 _ _)) (rb.kept (K2 _ _)) ka kb).mono ?_
    rintro e w' ⟨rfl, n, rfl⟩
    go_wp2
    go_ret
    exact ⟨ret_int (by rw [HE.out.1, HE.out.2]; simp), (K2 _ _).drewN _⟩
  · go_enter Try.func19, Try.ntmps19
    go_wp2
    go_ret
    refine ⟨ret_int ?_, K2 _ _⟩
    have := val_pos kb (HS.out.2 (by simp))
    rw [HE.out.1, HE.out.2, Dg.cmp_gt (by simp; omega)]
  · go_enter Try.func19, Try.ntmps19
    go_wp2
    go_ret
    refine ⟨ret_int ?_, K2 _ _⟩
    have := val_pos ka (HS.out.1 (by simp))
    rw [HE.out.1, HE.out.2, Dg.cmp_lt (by simp; omega)]
  · go_enter Try.func19, Try.ntmps19
    go_wp2_with fail
    refine (above_calls _ _ _ _ _ _ db da _ (rb.kept (K2 _ _)) (ra.kept (K2 _ _)) kb ka).mono ?_
    rintro e w' ⟨rfl, n, rfl⟩
    go_wp2
    go_ret
    exact ⟨ret_int (by rw [HE.out.1, HE.out.2]; simp [cmp_neg]), (K2 _ _).drewN _⟩

/-- A number told in 64 bits, or the error's number. -/
def narrow (z : Int) : Int × Int := if -9223372036854775808 ≤ z ∧ z ≤ 9223372036854775807 then (z, 0) else (0, 10)
theorem narrow_in {z : Int} (h1 : -9223372036854775808 ≤ z) (h2 : z ≤ 9223372036854775807) : narrow z = (z, 0) := by unfold narrow; rw [if_pos ⟨h1, h2⟩]
theorem narrow_out {z : Int} (h : z < -9223372036854775808 ∨ 9223372036854775807 < z) : narrow z = (0, 10) := by unfold narrow; rw [if_neg (by omega)]

/-- The number that the digits make, from the highest down. -/
theorem down_step (ds : List Nat) (k : Nat) (hk : 0 < k) (hl : k ≤ ds.length) : Dg.val (ds.drop (k - 1)) = Dg.val (ds.drop k) * 65536 + ds.getD (k - 1) 0 := by
  have e : ds.drop (k - 1) = ds.getD (k - 1) 0 :: ds.drop k := by
    rw [List.drop_eq_getElem_cons (by omega : k - 1 < ds.length), show k - 1 + 1 = k from by omega]
    simp [List.getD, List.getElem?_eq_getElem (by omega : k - 1 < ds.length)]
  rw [e, Dg.val]
  omega
theorem ok_drop {ds : List Nat} (h : Dg.Ok ds) (k : Nat) : Dg.Ok (ds.drop k) := fun i => by
  have := h (k + i)
  simp only [List.getD, List.getElem?_drop] at this ⊢
  exact this
theorem drop_lt {ds : List Nat} (h : Dg.Ok ds) (k : Nat) (hl : ds.length ≤ 4) (hk : 0 < k) : Dg.val (ds.drop k) < 281474976710656 := by
  have h1 := Dg.val_lt (ok_drop h k)
  have h2 : 65536 ^ (ds.drop k).length ≤ 65536 ^ 3 := Nat.pow_le_pow_right (by decide) (by simp; omega)
  have h3 : 65536 ^ 3 = 281474976710656 := by decide
  omega

end Go.Proofs.Ytikmollocchfnab
