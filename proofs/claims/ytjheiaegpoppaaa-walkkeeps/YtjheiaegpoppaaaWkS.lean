/- slices.Reverse of a row of int. -/
import Derived.Test.YtjheiaegpoppaaaWkA
import Derived.Deep.LoopGhost
namespace Go.Proofs.Ytjheiaegpoppaaa
open Go.RowKit

theorem getD_set (l : List Int) (i k : Nat) (x : Int) (hi : i < l.length) : (l.set i x).getD k 0 = if k = i then x else l.getD k 0 := by
  by_cases e : k = i
  · subst e; simp [List.getD, hi]
  · simp [List.getD, e, Ne.symm e]

theorem jvals_set (zs : List Int) (i : Nat) (x : Int) : (jvals zs).set i (.int .i64 x) = jvals (zs.set i x) := by simp [jvals, List.map_set]

theorem rev_end {zs zk : List Int} {i L : Nat} (hz : zs.length = L) (hk : zk.length = L) (h : ∀ k, k < L → zk.getD k 0 = if k < i ∨ L ≤ k + i then zs.getD (L - 1 - k) 0 else zs.getD k 0) (hi : L ≤ 2 * i + 1) : zk = zs.reverse := by
  apply List.ext_getElem
  · rw [List.length_reverse, hz, hk]
  · intro k h1 h2
    have := h k (by omega)
    have e1 : zk.getD k 0 = zk[k] := by simp [List.getD, h1]
    have e2 : zs.reverse[k] = zs.getD (L - 1 - k) 0 := by
      rw [List.getElem_reverse]
      have h3 : L - 1 - k < zs.length := by omega
      have h4 : zs.getD (L - 1 - k) 0 = zs[L - 1 - k] := by rw [List.getD_eq_getElem?_getD, List.getElem?_eq_getElem h3]; rfl
      rw [h4]
      congr 1
      omega
    rw [e2, ← e1, this]
    by_cases c : k < i ∨ L ≤ k + i
    · rw [if_pos c]
    · rw [if_neg c, show L - 1 - k = k by omega]

set_option maxRecDepth 100000 in
set_option maxHeartbeats 2000000 in
theorem srev_calls (b base cap L : Nat) (zs : List Int) (w : World) (h : w.ownsRow base 3 1 (.slice (some ⟨b, 0, none⟩) L cap) L (jvals zs)) (hL : L ≤ 1000000) :
    Calls Try.prog 49 #[.slice (some ⟨b, 0, none⟩) L cap] w fun r w' => r = .returned (.tuple #[]) ∧ w'.ownsRow base 3 1 (.slice (some ⟨b, 0, none⟩) L cap) L (jvals zs.reverse) ∧ Ch (fun k => k = b) w w' := by
  have hzl : zs.length = L := by have := h.1; simpa [jvals] using this
  have hr := (JRow.of_owns h).room
  have HW := hid_of h
  have HZ := hid_of hzl
  clear h hzl
  go_enter Try.func49, Try.ntmps49
  go_wp2_with fail
  go_loopg [2, 3] L (fun gk s2 s3 wr => ∃ (i : Nat) (zk : List Int), i + gk = L ∧ 2 * i ≤ L + 1 ∧ s2 = .int .i64 (i : Int) ∧ s3 = .int .i64 ((L : Int) - 1 - (i : Int)) ∧ zk.length = L ∧ (∀ k, k < L → zk.getD k 0 = if k < i ∨ L ≤ k + i then zs.getD (L - 1 - k) 0 else zs.getD k 0) ∧
    wr.ownsRow base 3 1 (.slice (some ⟨b, 0, none⟩) L cap) L (jvals zk) ∧ Ch (fun k => k = b) w wr)
  case atStart => exact ⟨0, zs, by omega, by omega, rfl, by simp, HZ.out, fun k hk => by rw [if_neg (by omega)], HW.out, Ch.refl _ _⟩
  case round =>
    obtain ⟨i, zk, hg, hi2, rfl, rfl, hzk, hrel2, ow, C⟩ := hrel
    clear HW
    by_cases hgo : (i : Int) < (L : Int) - 1 - (i : Int)
    · obtain ⟨j, hj⟩ : ∃ j, L = i + j + 1 := ⟨L - i - 1, by omega⟩
      have ej : (L : Int) - 1 - (i : Int) = (j : Int) := by omega
      rw [ej] at hgo ⊢
      have hjL : (j : Int) < (L : Int) := by omega
      have hiL : (i : Int) < (L : Int) := by omega
      have ci := ow.cellAt i (by omega)
      have cj := ow.cellAt j (by omega)
      rw [jvals_get zk i (by omega)] at ci
      rw [jvals_get zk j (by omega)] at cj
      have fi := ow.frozenAt i
      have fj := ow.frozenAt j
      obtain ⟨zi, hzi⟩ : ∃ z, zk.getD i 0 = z := ⟨_, rfl⟩
      obtain ⟨zj, hzj⟩ : ∃ z, zk.getD j 0 = z := ⟨_, rfl⟩
      rw [hzi] at ci
      rw [hzj] at cj
      have HO := hid_of ow
      have HC := hid_of C
      have HR := hid_of hrel2
      have HJ := hid_of hj
      have HE := hid_of ej
      have HI := hid_of hzi
      have HJ2 := hid_of hzj
      have HK := hid_of hzk
      have HG := hid_of hg
      clear ow C hrel2 hj ej hzi hzj hzk hg
      go_wp2_with fail
      go_region
      go_wp2_with fail
      have hil : i < zk.length := by rw [HK.out]; omega
      have hjl : j < (zk.set i zj).length := by rw [List.length_set, HK.out]; omega
      have ON : Hid (((wr.setCell ⟨b, i, none⟩ (.int .i64 zj)).setCell ⟨b, j, none⟩ (.int .i64 zi)).drew.ownsRow base 3 1 (.slice (some ⟨b, 0, none⟩) L cap) L (jvals ((zk.set i zj).set j zi))) := by
        refine World.ownsRow.drew ?_
        rw [← jvals_set, ← jvals_set]
        exact ((HO.out.stored i _).1.stored j _).1
      have CN : Hid (Ch (fun k => k = b) w ((wr.setCell ⟨b, i, none⟩ (.int .i64 zj)).setCell ⟨b, j, none⟩ (.int .i64 zi)).drew) :=
        ((HC.out.setCell (F := fun k => k = b) (p := ⟨b, i, none⟩) rfl _).setCell (F := fun k => k = b) (p := ⟨b, j, none⟩) rfl _).trans (.of_kept (Kept.refl _).drew)
      go_roundg (gk - 1)
      case measure => have := HG.out; omega
      case rel =>
        refine ⟨i + 1, (zk.set i zj).set j zi, by have := HG.out; have := HJ.out; omega, by have := HJ.out; omega, by go_num, by have := HJ.out; first | (congr 1; omega) | (simp; omega), by rw [List.length_set, List.length_set, HK.out], fun k hk => ?_, ON.out, CN.out⟩
        have e := HJ.out
        have R := HR.out k hk
        rw [getD_set _ _ _ _ hjl, getD_set _ _ _ _ hil]
        by_cases k1 : k = j
        · subst k1
          rw [if_pos rfl, if_pos (by omega), ← HI.out, HR.out i (by omega), if_neg (by omega)]
          congr 1; omega
        · rw [if_neg k1]
          by_cases k2 : k = i
          · subst k2
            rw [if_pos rfl, if_pos (by omega), ← HJ2.out, HR.out j (by omega), if_neg (by omega)]
            congr 1; omega
          · rw [if_neg k2, R]
            by_cases c : k < i ∨ L ≤ k + i
            · rw [if_pos c, if_pos (by omega)]
            · rw [if_neg c, if_neg (by omega)]
    · have e := rev_end HZ.out hzk hrel2 (by omega)
      subst e
      have FO := hid_of ow
      have FC := hid_of C
      clear ow C hrel2
      go_wp2_with fail
      go_end0
      exact ⟨rfl, FO.out, FC.out⟩
end Go.Proofs.Ytjheiaegpoppaaa
