/- ScaleAdmits: the walk of the law. -/
import Derived.Test.YtikmollocchfnabDoorAdmitS
import Derived.Test.YtikmollocchfnabDoorBackP
import Derived.Test.YtikmollocchfnabDoorTotalA
namespace Go.Proofs.YtikmollocchfnabDoor
open Go.RowKit

theorem row_nil (w : World) : Row w none 0 0 [] := ⟨rfl, by omega, by unfold maxLen; omega, fun h => by omega⟩

theorem row_some (x : Addr) (len cap : Nat) (zs : List Int) (w : World) (hl : len ≤ cap) (hm : cap ≤ maxLen) (hz : zs.length = cap) (hcell : ∀ i, i < zs.length → w.cell? (x.add i) = some (.int .u64 (zs.getD i 0))) (hwz : ∀ n ∈ zs, (Lit.int .u64 n).wf = true) :
    ∃ ds : List Nat, Row w (some x) len cap ds ∧ ∀ i, ds.getD i 0 < 18446744073709551616 := by
  have hb : ∀ n ∈ zs, 0 ≤ n ∧ n < 18446744073709551616 := fun n hn => by
    obtain ⟨y, rfl, hy⟩ := nat_of_wf (hwz n hn)
    omega
  have hg : ∀ i, i < zs.length → ((zs.getD i 0).toNat : Int) = zs.getD i 0 ∧ (zs.getD i 0).toNat < 18446744073709551616 := fun i hi => by
    have e : zs.getD i 0 = zs[i] := by simp [List.getD, hi]
    have := hb _ (List.getElem_mem hi)
    rw [e]
    omega
  have hd : ∀ i, i < len → ((zs.take len).map Int.toNat).getD i 0 = (zs.getD i 0).toNat := fun i hi => by
    have h1 : i < zs.length := by omega
    simp [List.getD, hi, h1]
  refine ⟨(zs.take len).map Int.toNat, ⟨by simp; omega, hl, hm, fun hn => ?_⟩, fun i => ?_⟩
  · have h0 := hcell 0 (by omega)
    obtain ⟨b, off, spot⟩ := x
    have hspot : spot = none := by simpa [Addr.add] using World.cell?_spot h0
    subst hspot
    refine ⟨b, off, rfl, fun i hi => ?_⟩
    have h1 := hcell i (by omega)
    rw [hd i hi, (hg i (by omega)).1]
    by_cases hi0 : i = 0
    · subst hi0; simpa [Addr.add] using h1
    · simpa [Addr.add, hi0] using h1
  · by_cases hi : i < len
    · rw [hd i hi]; exact (hg i (by omega)).2
    · simp only [List.getD]
      rw [List.getElem?_eq_none (by simp; omega)]
      decide

set_option maxRecDepth 100000 in
set_option linter.unusedSimpArgs false in
set_option maxHeartbeats 2000000 in
theorem scaleAdmitsWalk (ao : Option Addr) (n cap : Nat) (ds : List Nat) (most : Int) (w : World) (h : Row w ao n cap ds) (hw : ∀ i, ds.getD i 0 < 18446744073709551616) (hn : n * 8 ≤ 140737488355328) (hT : Tab w) :
    Calls Tryd.prog 3 #[.slice ao n cap, .int .i64 most] w fun v w' => v = .returned (.bool true) ∧ Kept w w' := by
  obtain ⟨ns, e, c, a, hA⟩ : ∃ ns e c a, Hid (admitOf ds most = (ns, e, c, a)) := ⟨_, _, _, _, hid_of rfl⟩
  have hnot : ∀ (x : Bool) (w : World), (Op.unary .not (.bool x)).run Tryd.prog w = .ok (.bool (!x)) w := fun _ _ => rfl
  have q1 : (e != e) = false := by simp
  have q2 : (c != c) = false := by simp
  have q3 : (a != a) = false := by simp
  have q4 : ((ns.length : Int) != (ns.length : Int)) = false := by simp
  have q5 : ∀ z : Int, (z != z) = false := by simp
  go_enter Tryd.func3, Tryd.ntmps3
  go_wp2_with fail
  refine (awake_calls _ hT).mono ?_
  rintro v wa ⟨rfl, K1⟩
  go_wp2_with fail
  refine (floats_calls ao n cap ds _ (h.kept K1) hn).mono ?_
  rintro v wb ⟨ao1, cap1, rfl, F, K2⟩
  go_wp2_with fail
  refine (admit_calls ao1 n cap1 ds most _ F hw ((hT.kept K1).kept K2) hn ns e c a hA).mono ?_
  rintro v wc ⟨⟨ao2, cap2, rfl, Z2⟩, K3⟩
  go_wp2_with fail
  refine (admitR_calls ao n cap ds most _ (h.kept (((K1.trans K2).trans K3).alloc _)) hw hn ns e c a hA).mono ?_
  rintro v wd ⟨⟨ao3, cap3, rfl, Z3⟩, K4⟩
  have hc0 : wd.cell? ⟨wc.heap.size, 0, none⟩ = some (.int .i64 c) := K4.cell (by simp [go_sem])
  have hc1 : wd.cell? ⟨wc.heap.size, 1, none⟩ = some (.int .i64 a) := K4.cell (by simp [go_sem])
  have KK : Kept w wd := (((K1.trans K2).trans K3).alloc _).trans K4
  have Z2' := Z2.kept (((Kept.refl _).alloc _).trans K4)
  clear hA h F K1 K2 K3 K4 Z2 hT hw
  have hm2 := Z2'.most
  have hr2 := Z2'.room
  have hm3 := Z3.most
  have hr3 := Z3.room
  unfold maxLen at hm2 hm3
  have HZ2 := hid_of Z2'
  have HZ3 := hid_of Z3
  clear Z2' Z3
  generalize hN : ns.length = N at *
  clear hN
  go_wp2
  go_loopw [55] (fun i wr => ∃ k : Nat, k ≤ N ∧ i = .int .i64 (k : Int) ∧ ∃ m, wr = wd.drewN m) (fun i _ => N - (intOf i).toNat)
  case atStart => exact ⟨0, by omega, rfl, 0, rfl⟩
  case round =>
    obtain ⟨k, hk, rfl, m, rfl⟩ := hrel
    by_cases hgo : (k : Int) < (N : Int)
    · obtain ⟨b1, o1, rfl, g1⟩ := HZ2.out.cell (by omega)
      obtain ⟨b2, o2, rfl, g2⟩ := HZ3.out.cell (by omega)
      have p1 := g1 k (by omega)
      have p2 := g2 k (by omega)
      clear g1 g2 HZ2 HZ3
      generalize ns.getD k 0 = x at p1 p2
      have q6 : (x != x) = false := by simp
      go_wp2
      go_quiet (fail)
      go_wp2
      go_roundw
      case rel => exact ⟨k + 1, by omega, by go_num, (by first | exact ⟨_, rfl⟩ | exact ⟨_, World.drewN_drewN ..⟩)⟩
      case measure => simp [intOf]; omega
    · obtain rfl : k = N := by omega
      go_wp2
      go_ret
      exact ⟨rfl, KK.drewN _⟩
end Go.Proofs.YtikmollocchfnabDoor
