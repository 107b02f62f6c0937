/- The least label, in the document. -/
import Derived.Test.YtikmollocchfnabLeast
namespace Go.Proofs.Ytikmollocchfnab
open Go.RowKit

theorem strictR_quiet (x y : Nat) (hx : x < 18446744073709551616) (hy : y < 18446744073709551616) (w : World) (q : Nat) :
    Calls Try.prog 14 #[.int .u64 (x : Int), .int .u64 (y : Int)] (w.drewN q) fun e w' => e = .returned (.int .i64 (Dg.cmp (fkey x) (fkey y))) ∧ ∃ m, w' = w.drewN m :=
  (strictR_calls x y hx hy _).mono fun _ _ ⟨h, k⟩ => ⟨h, q, k.symm⟩

/-- So far the label at k is a least one. -/
def Till (ds : List Nat) (k q : Nat) (b : Bool) : Prop := b = true ↔ (¬ Fl.nan (ds.getD k 0) ∧ ∀ j, j < q → fkey (ds.getD k 0) ≤ fkey (ds.getD j 0))

theorem Till.no {ds : List Nat} {k q : Nat} {b : Bool} (_ : Till ds k q b) (hl : fkey (ds.getD q 0) < fkey (ds.getD k 0)) : Till ds k (q + 1) false :=
  ⟨fun h => by simp at h, fun h => by have := h.2 q (by omega); omega⟩
theorem Till.yes {ds : List Nat} {k q : Nat} {b : Bool} (h : Till ds k q b) (hl : ¬ fkey (ds.getD q 0) < fkey (ds.getD k 0)) : Till ds k (q + 1) b :=
  ⟨fun hb => ⟨(h.1 hb).1, fun j hj => by
    by_cases c : j = q
    · subst c; omega
    · exact (h.1 hb).2 j (by omega)⟩, fun hb => h.2 ⟨hb.1, fun j hj => hb.2 j (by omega)⟩⟩

theorem class_ne (x : Nat) : (fcls x != 2) = decide (¬ Fl.nan x) := by
  unfold fcls
  by_cases h : Fl.nan x
  · rw [if_pos h, decide_eq_false (fun t => t h)]; rfl
  · rw [if_neg h, decide_eq_true h]; split <;> rfl

set_option maxRecDepth 100000 in
set_option maxHeartbeats 2000000 in
theorem leastR_calls (ao : Option Addr) (n cap : Nat) (ds : List Nat) (w : World) (h : Row w ao n cap ds) (hw : ∀ i, ds.getD i 0 < 18446744073709551616) :
    Calls Try.prog 12 #[.slice ao n cap] w fun e w' => ∃ r c, e = .returned (.tuple #[.int .i64 r, .int .i64 c]) ∧ LeastIs ds r c ∧ Kept w w' := by
  have hl1 : n ≤ ds.length := Nat.le_of_eq h.len
  have hl2 : ds.length ≤ n := Nat.le_of_eq h.len.symm
  have hr := h.room
  have hm := h.most
  unfold maxLen at hm
  go_enter Try.func12, Try.ntmps12
  go_wp2_with fail
  go_loopw [4] (fun i wr => ∃ (k : Nat), k ≤ n ∧ i = .int .i64 k ∧ Kept w wr ∧ ∀ j, j < k → ¬ IsLeast ds j) (fun i _ => n - (intOf i).toNat)
  case atStart => exact ⟨0, by omega, rfl, Kept.refl _, fun j hj => by omega⟩
  case round =>
    obtain ⟨k, hk, rfl, KO, R⟩ := hrel
    have HR := hid_of R
    clear R
    by_cases hgo : (k : Int) < (n : Int)
    · obtain ⟨b, off, rfl, hc⟩ := h.cell (by omega)
      have hcx := KO.cell (hc k (by omega))
      have wx := hw k
      have HC : Hid (∀ i, i < n → w.cell? ⟨b, off + i, none⟩ = some (.int .u64 ((ds.getD i 0 : Nat) : Int))) := hc
      have T0 : Hid (Till ds k 0 (fcls (ds.getD k 0) != 2)) := by
        rw [class_ne]
        exact ⟨fun t => ⟨of_decide_eq_true t, fun j hj => by omega⟩, fun t => decide_eq_true t.1⟩
      have CC : Hid (∀ w : World, Calls Try.prog 23 #[.int .u64 ((ds.getD k 0 : Nat) : Int)] w fun e w' => e = .returned (.int .i64 (fcls (ds.getD k 0))) ∧ w = w') := fun w => class_calls _ wx w
      have SC : Hid (∀ (q : Nat) (y : Nat) (W : World) (p : Nat), y = ds.getD q 0 → Calls Try.prog 14 #[.int .u64 (y : Int), .int .u64 ((ds.getD k 0 : Nat) : Int)] (W.drewN p) fun e w' => e = .returned (.int .i64 (Dg.cmp (fkey y) (fkey (ds.getD k 0)))) ∧ ∃ m, w' = W.drewN m) := fun q y W p e => strictR_quiet _ _ (by rw [e]; exact hw q) wx W p
      have TN : Hid (∀ q b, Till ds k q b → fkey (ds.getD q 0) < fkey (ds.getD k 0) → Till ds k (q + 1) false) := fun q b t => Till.no t
      have TY : Hid (∀ q b, Till ds k q b → ¬ fkey (ds.getD q 0) < fkey (ds.getD k 0) → Till ds k (q + 1) b) := fun q b t => Till.yes t
      have TL : Hid (∀ b, Till ds k ds.length b → (b = true ↔ IsLeast ds k)) := fun b t => t
      clear hc
      obtain ⟨x, exk⟩ : ∃ x, ds.getD k 0 = x := ⟨_, rfl⟩
      rw [exk] at hcx wx T0 CC SC TN TY
      have EXK := hid_of exk
      clear exk
      go_wp2_with (go_at_call 23; refine (CC.out _).mono ?_; rintro e w' ⟨rfl, rfl⟩)
      go_loopw [5, 6] (fun l i wr => ∃ (q : Nat) (c : Bool), q ≤ n ∧ i = .int .i64 q ∧ l = .bool c ∧ Till ds k q c ∧ Kept w wr) (fun _ i _ => n - (intOf i).toNat)
      case atStart => exact ⟨0, _, by omega, rfl, rfl, T0.out, KO⟩
      case round =>
        obtain ⟨q, c, hq, rfl, rfl, T, KI⟩ := hrel
        have HT := hid_of T
        clear T
        by_cases hgo2 : (q : Int) < (n : Int)
        · have hcy := KI.cell (HC.out q (by omega))
          have hcx := KI.cell (HC.out k (by omega))
          rw [EXK.out] at hcx
          have T1 := hid_of (TN.out q c HT.out)
          have T2 := hid_of (TY.out q c HT.out)
          have SQ := SC.out q (ds.getD q 0)
          have SQ' : Hid (∀ (W : World) (p : Nat), Calls Try.prog 14 #[.int .u64 ((ds.getD q 0 : Nat) : Int), .int .u64 (x : Int)] (W.drewN p) fun e w' => e = .returned (.int .i64 (Dg.cmp (fkey (ds.getD q 0)) (fkey x))) ∧ ∃ m, w' = W.drewN m) := fun W p => SQ W p rfl
          clear SQ
          generalize ds.getD q 0 = y at hcy T1 T2 SQ'
          by_cases hlt : fkey y < fkey x
          · have B := hid_of (T1.out (by omega))
            have hd : decide (Dg.cmp (fkey y) (fkey x) < 0) = true := decide_eq_true (by rw [cmp_neg_iff]; exact hlt)
            clear T1 T2
            go_wp2
            go_quiet ((go_at_call 14; exact SQ'.out _ _))
            go_wp2
            go_roundw
            case rel => exact ⟨q + 1, false, by omega, by go_num, rfl, B.out, KI.drewN _⟩
            case measure => simp [intOf]; omega
          · have B := hid_of (T2.out (by omega))
            have hd : decide (Dg.cmp (fkey y) (fkey x) < 0) = false := decide_eq_false (by rw [cmp_neg_iff]; exact hlt)
            clear T1 T2
            go_wp2
            go_quiet ((go_at_call 14; exact SQ'.out _ _))
            go_wp2
            go_roundw
            case rel => exact ⟨q + 1, c, by omega, by go_num, rfl, B.out, KI.drewN _⟩
            case measure => simp [intOf]; omega
        · obtain rfl : q = ds.length := by omega
          have hL := TL.out c HT.out
          cases c
          · have hN : ¬ IsLeast ds k := fun t => by have := hL.2 t; simp at this
            have HN := hid_of hN
            clear hN hL
            go_wp2
            go_roundw
            case rel =>
              refine ⟨k + 1, by omega, by go_num, KI, fun j hj => ?_⟩
              by_cases e : j = k
              · subst e; exact HN.out
              · exact HR.out j (by omega)
            case measure => simp [intOf]; omega
          · have HN := hid_of (hL.1 rfl)
            clear hL
            go_wp2
            go_ret2
            exact ⟨_, _, rfl, .inl ⟨k, rfl, rfl, by omega, HN.out, HR.out⟩, KI⟩
    · obtain rfl : k = ds.length := by omega
      go_wp2
      go_ret2
      exact ⟨_, _, rfl, .inr ⟨rfl, rfl, HR.out⟩, KO⟩
end Go.Proofs.Ytikmollocchfnab
