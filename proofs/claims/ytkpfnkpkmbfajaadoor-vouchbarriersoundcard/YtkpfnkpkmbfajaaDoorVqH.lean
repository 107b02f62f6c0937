/- The document's ones, Matches, Matching, Cost. -/
import Derived.Test.YtkpfnkpkmbfajaaDoorVqG
namespace Go.Proofs.YtkpfnkpkmbfajaaDoor
open Go.RowKit

def onesTo (n : Nat) : List Int := (List.range n).map fun _ => 1
theorem onesTo_at {n i : Nat} (h : i < n) : zAt (onesTo n) i = 1 := by simp [zAt, onesTo, List.getD, h]
theorem onesTo_len (n : Nat) : (onesTo n).length = n := by simp [onesTo]

set_option maxRecDepth 100000 in
set_option linter.unusedSimpArgs false in
set_option maxHeartbeats 4000000 in
theorem onesR_calls (N : Nat) (hN : N ≤ 1024) (s : Value) (w : World) :
    Calls Tryd.prog 97 #[.agg #[.int .i64 (N : Int), s]] w fun r w' => ∃ g, r = .returned (.slice (some ⟨g, 0, none⟩) N N) ∧ JRow w' (some ⟨g, 0, none⟩) N N (onesTo N) ∧ Kept w w' := by
  have hmk : ∀ w : World, (Instr.makeSlice 25 (.int .i64 (N : Int)) (.int .i64 (N : Int))).run Tryd.prog w = .ok (.slice (some ⟨w.heap.size, 0, none⟩) N N) (w.alloc (.cells (madeCells #[.int .i64 0] N) 3)) :=
    fun w => run_make_row' 25 3 (.int .i64 0) 8 Tryd.underlying25 infoJ0 rfl .i64 .i64 N (by omega) (by omega) w
  have KW : Kept w (w.alloc (Obj.cells #[.int .i64 (N : Int), s] 24)) := (Kept.refl w).alloc _
  have w0 : (w.alloc (Obj.cells #[.int .i64 (N : Int), s] 24)).cell? ⟨w.heap.size, 0, none⟩ = some (.int .i64 (N : Int)) := by simp [go_sem]
  go_enter Tryd.func97, Tryd.ntmps97
  go_upto_region 1 with fail
  generalize w.alloc (Obj.cells #[.int .i64 (N : Int), s] 24) = W1 at KW w0 ⊢
  have KM : Kept W1 (W1.alloc (.cells (madeCells #[.int .i64 0] N) 3)) := (Kept.refl W1).alloc _
  have I0 : IntsAt (W1.alloc (.cells (madeCells #[.int .i64 0] N) 3)) W1.heap.size N (fun v => if v < 0 then 1 else 0) := World.rowIs.congr (World.rowIs_made W1 (.int .i64 0) N 3) (fun i _ => by simp)
  obtain ⟨q, hq⟩ : ∃ q, W1.heap.size = q := ⟨_, rfl⟩
  have hwq : W1.heap.size ≤ q := by omega
  have W0H := hid_of w0
  rw [hq] at I0
  have HWQ := hid_of hwq
  have KWH := hid_of KW
  have KMH := hid_of KM
  have IH := hid_of I0
  go_upto_region 2 with fail
  generalize W1.alloc (.cells (madeCells #[.int .i64 0] N) 3) = W2 at KMH IH ⊢
  clear hmk KM I0 hq KW w0
  go_wp2_with fail
  go_loopw [4] (fun i wr => ∃ (k : Nat), k ≤ N ∧ i = .int .i64 k ∧ Kept W1 wr ∧ IntsAt wr q N (fun v => if v < k then 1 else 0)) (fun i _ => N - (intOf i).toNat)
  case atStart => exact ⟨0, by omega, rfl, KMH.out, IH.out⟩
  case round =>
    obtain ⟨k, hk, rfl, K, IR⟩ := hrel
    have IRH := hid_of IR
    have KH := hid_of K
    have w0 := K.cell W0H.out
    clear IR IH KMH
    by_cases hgo : (k : Int) < (N : Int)
    · have hkN : k < N := by omega
      have ck := IRH.out.cell hkN
      have fk := World.rowIs.frozen IRH.out k
      have IN : Hid (IntsAt (wr.setCell ⟨q, k, none⟩ (.int .i64 1)) q N (fun v => if v < k + 1 then 1 else 0)) := (IRH.out.set k 1).congr (fun v _ => by
        show Value.int .i64 (if v = k then 1 else if v < k then 1 else 0) = .int .i64 (if v < k + 1 then 1 else 0)
        by_cases e1 : v = k
        · subst e1; rw [if_pos rfl, if_pos (by omega)]
        · rw [if_neg e1]
          by_cases e2 : v < k
          · rw [if_pos e2, if_pos (by omega)]
          · rw [if_neg e2, if_neg (by omega)])
      have KN : Hid (Kept W1 (wr.setCell ⟨q, k, none⟩ (.int .i64 1))) := KH.out.setCell (p := ⟨q, k, none⟩) HWQ.out _
      clear K
      go_wp2_with fail
      go_roundw
      case rel => exact ⟨k + 1, by omega, by go_num, KN.out, IN.out⟩
      case measure => simp [intOf]; omega
    · obtain rfl : k = N := by omega
      have JF : Hid (JRow wr (some ⟨q, 0, none⟩) k k (onesTo k)) := ⟨by rw [onesTo_len], Nat.le_refl _, by unfold maxLen; omega, fun _ => ⟨q, 0, rfl, fun i hi => by
        have := IRH.out.cell hi
        simp only [hi, if_true] at this
        rw [Nat.zero_add, this]
        have e := onesTo_at hi
        unfold zAt at e
        rw [e]⟩⟩
      clear K
      go_wp2
      go_ret
      exact ⟨q, rfl, JF.out, KWH.out.trans KH.out⟩

/-- With one at each node at most, edges are a matching. -/
theorem tak_one {es : List Ed} {n N : Nat} {c : List Int} {L : Nat} (he : EndsIn es N n) : TakOk es n N (onesTo N) c L ↔ MatchOk es n c L := by
  have use : ∀ k v, usedTo es c k v = true ↔ 0 < takTo es c k v := by
    intro k
    induction k with
    | zero => intro v; simp [usedTo, takTo]
    | succ k ih =>
      intro v
      rw [usedTo_succ, takTo_succ]
      have i := ih v
      have b := (takTo_bd es c k v).1
      by_cases h1 : tto es c k = (v : Int)
      · rw [if_pos h1.symm, if_pos h1]
        constructor
        · intro _; split <;> omega
        · intro _; rfl
      · rw [if_neg (fun t => h1 t.symm), if_neg h1]
        by_cases h2 : frm es c k = (v : Int)
        · rw [if_pos h2.symm, if_pos h2]
          constructor
          · intro _; omega
          · intro _; rfl
        · rw [if_neg (fun t => h2 t.symm), if_neg h2, i]; omega
  have mono : ∀ v k j, takTo es c k v ≤ takTo es c (k + j) v := by
    intro v k j
    induction j with
    | zero => exact Int.le_refl _
    | succ j ih => rw [← Nat.add_assoc, takTo_succ]; split <;> split <;> omega
  constructor
  · rintro ⟨ris, apart, tk⟩
    refine ⟨ris, fun j hj => ?_⟩
    obtain ⟨r1, r2⟩ := ris.rng hj
    obtain ⟨e1, e2, e3, e4⟩ := he (zAt c j).toNat (by omega)
    have hf : frm es c j = ((frm es c j).toNat : Int) := by unfold frm; omega
    have ht : tto es c j = ((tto es c j).toNat : Int) := by unfold tto; omega
    refine ⟨apart j hj, ?_, ?_⟩
    · cases hu : usedTo es c j (frm es c j).toNat with
      | false => rfl
      | true =>
        have u := (use j _).1 hu
        have s := takTo_succ es c j (frm es c j).toNat
        rw [if_pos hf] at s
        have m := mono (frm es c j).toNat (j + 1) (L - (j + 1))
        rw [show j + 1 + (L - (j + 1)) = L by omega] at m
        have b := tk (frm es c j).toNat (by unfold frm; omega)
        rw [onesTo_at (by unfold frm; omega)] at b
        split at s <;> omega
    · cases hu : usedTo es c j (tto es c j).toNat with
      | false => rfl
      | true =>
        have u := (use j _).1 hu
        have s := takTo_succ es c j (tto es c j).toNat
        rw [if_pos ht] at s
        have m := mono (tto es c j).toNat (j + 1) (L - (j + 1))
        rw [show j + 1 + (L - (j + 1)) = L by omega] at m
        have b := tk (tto es c j).toNat (by unfold tto; omega)
        rw [onesTo_at (by unfold tto; omega)] at b
        split at s <;> omega
  · rintro ⟨ris, ap⟩
    refine ⟨ris, fun j hj => (ap j hj).1, fun v hv => ?_⟩
    rw [onesTo_at hv]
    have key : ∀ k, k ≤ L → takTo es c k v ≤ 1 := by
      intro k
      induction k with
      | zero => intro _; show (0 : Int) ≤ 1; omega
      | succ k ih =>
        intro hk
        have i := ih (by omega)
        obtain ⟨a1, a2, a3⟩ := ap k (by omega)
        rw [takTo_succ]
        have b := (takTo_bd es c k v).1
        by_cases h2 : frm es c k = (v : Int)
        · have h1 : ¬ tto es c k = (v : Int) := fun t => a1 (by rw [h2, t])
          rw [if_pos h2, if_neg h1]
          rw [h2, Int.toNat_natCast] at a2
          have : ¬ 0 < takTo es c k v := fun t => by rw [(use k v).2 t] at a2; cases a2
          omega
        · by_cases h1 : tto es c k = (v : Int)
          · rw [if_neg h2, if_pos h1]
            rw [h1, Int.toNat_natCast] at a3
            have : ¬ 0 < takTo es c k v := fun t => by rw [(use k v).2 t] at a3; cases a3
            omega
          · rw [if_neg h2, if_neg h1]; omega
    exact key L (Nat.le_refl _)
end Go.Proofs.YtkpfnkpkmbfajaaDoor
