/- ScaleExact: the walk of the law. -/
import Derived.Test.YtikmollocchfnabDoorExactA
import Derived.Test.YtikmollocchfnabDoorFloats
import Derived.Test.YtikmollocchfnabDoorTotalA
namespace Go.Proofs.YtikmollocchfnabDoor
open Go.RowKit

theorem row_nil (w : World) : Row w none 0 0 [] := ⟨rfl, by omega, by unfold maxLen; omega, fun h => by omega⟩

theorem row_some (x : Addr) (len cap : Nat) (zs : List Int) (w : World) (hl : len ≤ cap) (hm : cap ≤ maxLen) (hz : zs.length = cap) (hcell : ∀ i, i < zs.length → w.cell? (x.add i) = some (.int .u64 (zs.getD i 0))) (hwz : ∀ n ∈ zs, (Lit.int .u64 n).wf = true) :
    ∃ ds : List Nat, Row w (some x) len cap ds ∧ ∀ i, ds.getD i 0 < 18446744073709551616 := by
  have hb : ∀ n ∈ zs, 0 ≤ n ∧ n < 18446744073709551616 := fun n hn => by
    obtain ⟨y, rfl, hy⟩ := nat_of_wf (hwz n hn)
    omega
  have hg : ∀ i, i < zs.length → ((zs.getD i 0).toNat : Int) = zs.getD i 0 ∧ (zs.getD i 0).toNat < 18446744073709551616 := fun i hi => by
    have e : zs.getD i 0 = zs[i] := by simp [List.getD, hi]
    have := hb _ (List.getElem_mem hi)
    rw [e]
    omega
  have hd : ∀ i, i < len → ((zs.take len).map Int.toNat).getD i 0 = (zs.getD i 0).toNat := fun i hi => by
    have h1 : i < zs.length := by omega
    simp [List.getD, hi, h1]
  refine ⟨(zs.take len).map Int.toNat, ⟨by simp; omega, hl, hm, fun hn => ?_⟩, fun i => ?_⟩
  · have h0 := hcell 0 (by omega)
    obtain ⟨b, off, spot⟩ := x
    have hspot : spot = none := by simpa [Addr.add] using World.cell?_spot h0
    subst hspot
    refine ⟨b, off, rfl, fun i hi => ?_⟩
    have h1 := hcell i (by omega)
    rw [hd i hi, (hg i (by omega)).1]
    by_cases hi0 : i = 0
    · subst hi0; simpa [Addr.add] using h1
    · simpa [Addr.add, hi0] using h1
  · by_cases hi : i < len
    · rw [hd i hi]; exact (hg i (by omega)).2
    · simp only [List.getD]
      rw [List.getElem?_eq_none (by simp; omega)]
      decide

theorem map_get (ds : List Nat) (e : Int) (k : Nat) (h : k < ds.length) : (ds.map fun x => wnum x e).getD k 0 = wnum (ds.getD k 0) e := by
  simp [List.getD, h]

theorem wnum_bd (x : Nat) (e M : Int) (h : (wmag x e : Int) ≤ M) : wnum x e ≤ M ∧ -(wnum x e) ≤ M := by
  unfold wnum
  split <;> omega

set_option maxRecDepth 100000 in
set_option linter.unusedSimpArgs false in
set_option maxHeartbeats 2000000 in
theorem scaleExactWalk (ao : Option Addr) (n cap : Nat) (ds : List Nat) (most : Int) (w : World) (h : Row w ao n cap ds) (hw : ∀ i, ds.getD i 0 < 18446744073709551616) (hn : n * 8 ≤ 140737488355328) (hT : Tab w) :
    Calls Tryd.prog 5 #[.slice ao n cap, .int .i64 most] w fun v w' => v = .returned (.bool true) ∧ Kept w w' := by
  obtain ⟨ns, e, c, a, hA⟩ : ∃ ns e c a, Hid (admitOf ds most = (ns, e, c, a)) := ⟨_, _, _, _, hid_of rfl⟩
  have hnot : ∀ (x : Bool) (w : World), (Op.unary .not (.bool x)).run Tryd.prog w = .ok (.bool (!x)) w := fun _ _ => rfl
  have hlen : n = ds.length := h.len
  rcases admit_sum ds most ns e c a hA.out with ⟨s1, s2, s3, s4⟩ | ⟨s1, m1, m2, s3, s4, s5⟩
  · have q1 : (c != 0) = true := by simpa using s1
    subst s2 s3
    clear s1 hlen
    go_enter Tryd.func5, Tryd.ntmps5
    go_wp2_with fail
    refine (awake_calls _ hT).mono ?_
    rintro v wa ⟨rfl, K1⟩
    go_wp2_with fail
    refine (floats_calls ao n cap ds _ (h.kept K1) hn).mono ?_
    rintro v wb ⟨ao1, cap1, rfl, F, K2⟩
    go_wp2_with fail
    refine (admit_calls ao1 n cap1 ds most _ F hw ((hT.kept K1).kept K2) hn [] 0 c a hA).mono ?_
    rintro v wc ⟨⟨ao2, cap2, rfl, Z2⟩, K3⟩
    have KK : Kept w wc := ((K1.trans K2).trans K3)
    clear hA F Z2 K1 K2 K3
    go_wp2
    go_ret
    first | exact ⟨rfl, KK.alloc _⟩ | (refine ⟨by simp; omega, KK.alloc _⟩)
  subst s1
  have cb := comTo_bd ds ds.length
  rw [← s3] at cb
  have HL : Hid (∀ j, j < ds.length → podd (ds.getD j 0) ≠ 0 → e ≤ pexp (ds.getD j 0)) := fun j hj hp => by rw [s3]; exact (comTo_least ds ds.length j hj hp).2
  have hnl : ns.length = n := by rw [s4, List.length_map]; exact hlen.symm
  have G : Hid (∀ k, k < ds.length → ns.getD k 0 = wnum (ds.getD k 0) e) := fun k hk => by rw [s4]; exact map_get ds e k hk
  have FL := flags ds ds.length
  rw [← s3, ← hlen] at FL
  have HFL := hid_of FL
  have HS5 : Hid (∀ j, j < n → fcls (ds.getD j 0) = 0 ∧ (wmag (ds.getD j 0) e : Int) ≤ most) := fun j hj => s5 j (by omega)
  rw [← hlen] at HL G
  have HW := hid_of hw
  have C : Hid (∀ (ao1 : Option Addr) (cap1 : Nat) (w : World), FRow w ao1 n cap1 ds → Tab w → Calls Tryd.prog 8 #[.slice ao1 n cap1, .int .i64 most] w fun v w' => (∃ ao' cap', v = .returned (.tuple #[.slice ao' n cap', .int .i64 e, .agg #[.int .i64 0, .int .i64 a]]) ∧ ZRow w' ao' n cap' ns) ∧ Kept w w') := fun ao1 cap1 w F T => by
    have := admit_calls ao1 n cap1 ds most w F HW.out T hn ns e 0 a hA
    rw [hnl] at this
    exact this
  obtain ⟨c1, c2⟩ := cb
  clear FL s3 s4 s5 hA hw hlen hnl
  go_enter Tryd.func5, Tryd.ntmps5
  go_wp2_with fail
  refine (awake_calls _ hT).mono ?_
  rintro v wa ⟨rfl, K1⟩
  go_wp2_with fail
  refine (floats_calls ao n cap ds _ (h.kept K1) hn).mono ?_
  rintro v wb ⟨ao1, cap1, rfl, F, K2⟩
  go_wp2_with fail
  refine (C.out ao1 cap1 _ F ((hT.kept K1).kept K2)).mono ?_
  rintro v wc ⟨⟨ao2, cap2, rfl, Z2⟩, K3⟩
  have KK : Kept w wc := (K1.trans K2).trans K3
  have HF := hid_of (F.kept K3)
  have HZ := hid_of Z2
  have hm1 := HF.out.most
  have hr1 := HF.out.room
  have hm2 := Z2.most
  have hr2 := Z2.room
  unfold maxLen at hm1 hm2
  clear C F Z2 K1 K2 K3 h hT
  go_wp2
  have HF0 := hid_of (HF.out.kept ((Kept.refl wc).alloc (Obj.cells #[.int .i64 0, .int .i64 a] 27)))
  have HZ0 := hid_of (HZ.out.kept ((Kept.refl wc).alloc (Obj.cells #[.int .i64 0, .int .i64 a] 27)))
  have KK0 := KK.alloc (Obj.cells #[.int .i64 0, .int .i64 a] 27)
  clear HF HZ KK
  generalize wc.alloc (Obj.cells #[.int .i64 0, .int .i64 a] 27) = W0 at HF0 HZ0 KK0 ⊢
  go_loopw [9, 10, 41] (fun o y i wr => ∃ k : Nat, k ≤ n ∧ i = .int .i64 (k : Int) ∧ o = .bool (oddTo ds e k) ∧ y = .bool (anyTo ds e k) ∧ Kept W0 wr) (fun _ _ i _ => n - (intOf i).toNat)
  case atStart => exact ⟨0, by omega, rfl, rfl, rfl, Kept.refl _⟩
  case round =>
    obtain ⟨k, hk, rfl, rfl, rfl, KI⟩ := hrel
    by_cases hgo : (k : Int) < (n : Int)
    · obtain ⟨b1, o1, rfl, g1⟩ := HZ0.out.cell (by omega)
      obtain ⟨b2, o2, rfl, g2⟩ := HF0.out.cell (by omega)
      have p1 := KI.cell (g1 k (by omega))
      have p2 := KI.cell (g2 k (by omega))
      rw [G.out k (by omega)] at p1
      clear g1 g2
      obtain ⟨f1, f2⟩ := HS5.out k (by omega)
      obtain ⟨x1, x2⟩ := wnum_bd _ _ _ f2
      have hO := back_finite (ds.getD k 0) e (HW.out k) f1 c1 c2 (HL.out k (by omega))
      have CB := hid_of (fun W p => back_quiet (wnum (ds.getD k 0) e) e (by omega) (by omega) c1 c2 W p)
      have EO : Hid (oddTo ds e (k + 1) = (oddTo ds e k || (wnum (ds.getD k 0) e % 2 == 1))) := rfl
      have EA : Hid (anyTo ds e (k + 1) = (anyTo ds e k || (wnum (ds.getD k 0) e != 0))) := rfl
      generalize backWord (wnum (ds.getD k 0) e) e = B at hO CB
      generalize wnum (ds.getD k 0) e = x at p1 x1 x2 CB EO EA
      generalize ds.getD k 0 = d at p2 hO
      generalize oddTo ds e k = O at EO ⊢
      generalize anyTo ds e k = Y at EA ⊢
      have y1 : ¬ most < x := by omega
      have y2 : ¬ most < -x := by omega
      have y3 : -9007199254740992 ≤ x := by omega
      have y4 : x ≤ 9007199254740992 := by omega
      have y5 : decide (most < x) = false := decide_eq_false y1
      have y6 : decide (most < -x) = false := decide_eq_false y2
      have y7 : IntKind.i64.wrap (-x) = -x := by rw [IntKind.wrap_i64]; first | omega | (unfold wrap64; omega)
      have y8 : decide (most < IntKind.i64.wrap (-x)) = false := by rw [y7]; exact y6
      clear f1 f2 x1 x2
      go_wp2
      go_quiet ((go_at_call 14; exact CB.out _ _))
      by_cases t1 : x % 2 = 1
      · have a1 : bits .and .i64 x 1 = 1 := by rw [i64_and1]; exact t1
        have a2 : (x % 2 == 1) = true := by simp [t1]
        have a3 : (x != 0) = true := by simp; omega
        rw [a2, Bool.or_true] at EO
        rw [a3, Bool.or_true] at EA
        clear t1 a2
        cases O <;> cases Y
        all_goals
          go_wp2
          go_roundw
          case rel => exact ⟨k + 1, by omega, by go_num, by rw [EO.out], by rw [EA.out], KI.drewN _⟩
          case measure => simp [intOf]; omega
      · have a1 : bits .and .i64 x 1 = 0 := by rw [i64_and1]; omega
        have a2 : (x % 2 == 1) = false := by simp; omega
        rw [a2, Bool.or_false] at EO
        clear t1 a2
        by_cases t2 : x = 0
        · have a3 : (x != 0) = false := by simp [t2]
          rw [a3, Bool.or_false] at EA
          clear t2
          cases O <;> cases Y
          all_goals
            go_wp2
            go_roundw
            case rel => exact ⟨k + 1, by omega, by go_num, by rw [EO.out], by rw [EA.out], KI.drewN _⟩
            case measure => simp [intOf]; omega
        · have a3 : (x != 0) = true := by simpa using t2
          rw [a3, Bool.or_true] at EA
          clear t2
          cases O <;> cases Y
          all_goals
            go_wp2
            go_roundw
            case rel => exact ⟨k + 1, by omega, by go_num, by rw [EO.out], by rw [EA.out], KI.drewN _⟩
            case measure => simp [intOf]; omega
    · obtain rfl : k = n := by omega
      rcases HFL.out with ⟨l1, l2⟩ | ⟨l1, l2, l3⟩
      · rw [l1, l2]
        clear HFL l1 l2
        go_wp2
        go_ret
        exact ⟨rfl, KK0.trans KI⟩
      · rw [l1, l2]
        subst l3
        clear HFL l1 l2
        go_wp2
        go_ret
        exact ⟨rfl, KK0.trans KI⟩
end Go.Proofs.YtikmollocchfnabDoor
