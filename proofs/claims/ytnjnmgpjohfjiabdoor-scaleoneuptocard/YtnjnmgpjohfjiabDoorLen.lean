/- How many bits a number has. -/
import Derived.Test.YtnjnmgpjohfjiabDoorBase
import Derived.Lib.BitFns
import Derived.Lib.Tables
namespace Go.Proofs.YtnjnmgpjohfjiabDoor
open Go.RowKit

/-- The bits of a number. -/
def blen (x : Nat) : Nat := if x = 0 then 0 else x.log2 + 1

theorem bitLen_blen (x : Nat) : ∀ f, x < 2 ^ f → Lib.bitLenAux f x = blen x := by
  induction x using Nat.strongRecOn with
  | ind x ih =>
    intro f hf
    by_cases h0 : x = 0
    · subst h0
      cases f <;> rfl
    · cases f with
      | zero => simp at hf; omega
      | succ f =>
        have hd : x / 2 < 2 ^ f := by rw [Nat.pow_succ] at hf; omega
        have := ih (x / 2) (by omega) f hd
        unfold Lib.bitLenAux
        rw [if_neg h0, this]
        unfold blen
        rw [if_neg h0]
        by_cases h1 : x / 2 = 0
        · have : x = 1 := by omega
          subst this
          rfl
        · rw [if_neg h1, Nat.log2_def x, if_pos (by omega)]
          omega

theorem bitLen_eq (x : Nat) (hx : x < 18446744073709551616) : Lib.bitLen x = blen x := bitLen_blen x 64 hx

theorem blen_le (x : Nat) (hx : x < 18446744073709551616) : blen x ≤ 64 := by
  rw [← bitLen_eq x hx]
  exact Lib.bitLen_le x 64 (by omega) hx

/-- One way of the function: y is what is left of x, k bits were cut. -/
theorem len_end (x y : Int) (k : Nat) (K : Int) (hK : K = (k : Int)) (hk8 : k ≤ 56) (h1 : x ≤ 18446744073709551615) (hy0 : 0 ≤ y) (hy : y < 256) (hb : y.toNat < Lib.len8tab.size) (e : y.toNat = x.toNat / 2 ^ k) (hk : k = 0 ∨ 2 ^ k ≤ x.toNat) :
    K + wrap64 (((Lib.len8tab[y.toNat]'hb).toNat : Nat) : Int) = (blen x.toNat : Int) ∧ wrap64 (K + wrap64 (((Lib.len8tab[y.toNat]'hb).toNat : Nat) : Int)) = (blen x.toNat : Int) := by
  have hx : x.toNat < 18446744073709551616 := by omega
  have e1 : (((Lib.len8tab[y.toNat]'hb).toNat : Nat) : Int) = Lib.len8 y := by
    unfold Lib.len8
    rw [ByteArray.getElem?_lt' _ _ hb]
    rfl
  have e2 := Lib.len8_of y hy0 (by omega)
  have e3 := Lib.bitLen_le8' y hy0 (by omega)
  have e4 : wrap64 (Lib.len8 y) = Lib.len8 y := by rw [e2]; unfold wrap64; omega
  have e5 : K + Lib.len8 y = (blen x.toNat : Int) := by
    rw [e2, ← bitLen_eq _ hx, hK, e]
    rcases hk with rfl | hk
    · simp
    · rw [Lib.bitLen_shift k _ hk hx]
      omega
  rw [e1, e4]
  refine ⟨e5, ?_⟩
  rw [e5, ← bitLen_eq _ hx]
  have := Lib.bitLen_le x.toNat 64 (by omega) hx
  unfold wrap64
  omega

/-- The table of the function, as it stands in the program. -/
theorem fold_len : (⟨((([0, 1, 2, 2, 3, 3, 3, 3, 4, 4, 4, 4, 4, 4, 4, 4, 5, 5, 5, 5, 5, 5, 5, 5, 5, 5, 5, 5, 5, 5, 5, 5, 6, 6, 6, 6, 6, 6, 6, 6, 6, 6, 6, 6, 6, 6, 6, 6, 6, 6, 6, 6, 6, 6, 6, 6, 6, 6, 6, 6, 6, 6, 6, 6] : List UInt8).append [7, 7, 7, 7, 7, 7, 7, 7, 7, 7, 7, 7, 7, 7, 7, 7, 7, 7, 7, 7, 7, 7, 7, 7, 7, 7, 7, 7, 7, 7, 7, 7, 7, 7, 7, 7, 7, 7, 7, 7, 7, 7, 7, 7, 7, 7, 7, 7, 7, 7, 7, 7, 7, 7, 7, 7, 7, 7, 7, 7, 7, 7, 7, 7]).append (([8, 8, 8, 8, 8, 8, 8, 8, 8, 8, 8, 8, 8, 8, 8, 8, 8, 8, 8, 8, 8, 8, 8, 8, 8, 8, 8, 8, 8, 8, 8, 8, 8, 8, 8, 8, 8, 8, 8, 8, 8, 8, 8, 8, 8, 8, 8, 8, 8, 8, 8, 8, 8, 8, 8, 8, 8, 8, 8, 8, 8, 8, 8, 8] : List UInt8).append [8, 8, 8, 8, 8, 8, 8, 8, 8, 8, 8, 8, 8, 8, 8, 8, 8, 8, 8, 8, 8, 8, 8, 8, 8, 8, 8, 8, 8, 8, 8, 8, 8, 8, 8, 8, 8, 8, 8, 8, 8, 8, 8, 8, 8, 8, 8, 8, 8, 8, 8, 8, 8, 8, 8, 8, 8, 8, 8, 8, 8, 8, 8, 8])).toArray⟩ : ByteArray) = Lib.len8tab := by kernel_rfl

set_option maxHeartbeats 4000000 in
set_option maxRecDepth 100000 in
theorem len64_int (x : Int) (h0 : 0 ≤ x) (h1 : x ≤ 18446744073709551615) (w : World) : Calls Tryd.prog 34 #[.int .u64 x] w fun e w' => e = .returned (.int .i64 (blen x.toNat : Int)) ∧ w = w' := by
  have hs := Lib.len8tab_size
  go_enter Tryd.func34, Tryd.ntmps34
  rw [fold_len]
  go_wp2
  all_goals (go_ret; refine ⟨ret_int ?_, rfl⟩)
  all_goals first
    | exact (len_end x _ 56 56 rfl (by omega) h1 (by omega) (by omega) _ (by omega) (.inr (by omega))).2
    | exact (len_end x _ 48 48 rfl (by omega) h1 (by omega) (by omega) _ (by omega) (.inr (by omega))).2
    | exact (len_end x _ 40 40 rfl (by omega) h1 (by omega) (by omega) _ (by omega) (.inr (by omega))).2
    | exact (len_end x _ 32 32 rfl (by omega) h1 (by omega) (by omega) _ (by omega) (.inr (by omega))).2
    | exact (len_end x _ 24 24 rfl (by omega) h1 (by omega) (by omega) _ (by omega) (.inr (by omega))).2
    | exact (len_end x _ 16 16 rfl (by omega) h1 (by omega) (by omega) _ (by omega) (.inr (by omega))).2
    | exact (len_end x _ 8 8 rfl (by omega) h1 (by omega) (by omega) _ (by omega) (.inr (by omega))).2
    | (have h := (len_end x x 0 0 rfl (by omega) h1 (by omega) (by omega) (by rw [hs]; omega) (by omega) (.inl rfl)).2
       rw [Int.zero_add] at h
       exact h)

theorem len64_calls (x : Nat) (hx : x < 18446744073709551616) (w : World) : Calls Tryd.prog 34 #[.int .u64 (x : Int)] w fun e w' => e = .returned (.int .i64 (blen x : Int)) ∧ w = w' := by
  have := len64_int (x : Int) (by omega) (by omega) w
  rw [Int.toNat_natCast] at this
  exact this

theorem lz64_calls (x : Nat) (hx : x < 18446744073709551616) (w : World) : Calls Tryd.prog 24 #[.int .u64 (x : Int)] w fun e w' => e = .returned (.int .i64 (64 - (blen x : Int))) ∧ w = w' := by
  have hb := blen_le x hx
  go_enter Tryd.func24, Tryd.ntmps24
  go_wp2_with (go_at_call 34; refine (len64_calls x hx _).mono ?_; rintro e w' ⟨rfl, rfl⟩)
  go_ret
  exact ⟨rfl, rfl⟩
end Go.Proofs.YtnjnmgpjohfjiabDoor
