/- ScaleOne: the walk of the law. -/
import Derived.Test.YtnjnmgpjohfjiabDoorOneE
import Derived.Test.YtnjnmgpjohfjiabDoorBackP
import Derived.Test.YtnjnmgpjohfjiabDoorTotalA
import Derived.Maps.AppendAt
namespace Go.Proofs.YtnjnmgpjohfjiabDoor
open Go.RowKit

/-- A row of int32. -/
structure IRow (w : World) (ao : Option Addr) (n cap : Nat) (zs : List Int) : Prop where
  len : n = zs.length
  room : n ≤ cap
  most : cap ≤ maxLen
  cell : 0 < n → ∃ b off, ao = some ⟨b, off, none⟩ ∧ ∀ i, i < n → w.cell? ⟨b, off + i, none⟩ = some (.int .i32 (zs.getD i 0))

theorem IRow.kept {w w' : World} {ao : Option Addr} {n cap : Nat} {zs : List Int} (h : IRow w ao n cap zs) (k : Kept w w') : IRow w' ao n cap zs :=
  ⟨h.len, h.room, h.most, fun hn => by
    obtain ⟨b, off, e, hc⟩ := h.cell hn
    exact ⟨b, off, e, fun i hi => k.cell (hc i hi)⟩⟩

/-- The state behind k labels: two rows that grow in turn. -/
structure OLoop (W : World) (zs : List Int) (up : Int) (k : Nat) (va vb : Value) (wr : World) : Prop where
  a : wr.ownsRow W.heap.size 35 1 va k (fvals ((oL zs 0).take k))
  b : wr.ownsRow W.heap.size 35 1 vb k (fvals ((oL zs up).take k))
  ne : va.ownBlock ≠ vb.ownBlock ∨ (va.ownBlock = none ∧ vb.ownBlock = none)
  kept : Kept W wr

theorem OLoop.mid {W : World} {zs : List Int} {up : Int} {k : Nat} {va vb va' : Value} {wr w1 : World} {o : Obj} (h : OLoop W zs up k va vb wr) (own : w1.ownsRow W.heap.size 35 1 va' (k + 1) (fvals ((oL zs 0).take k) ++ [.float .f64 (oword (zs.getD k 0) 0)]))
    (g : (wr.alloc o).grownBy w1 va.ownBlock) (ha : va'.ownBlock = va.ownBlock ∨ va'.ownBlock = some (wr.heap.size + 1)) :
    w1.ownsRow W.heap.size 35 1 vb k (fvals ((oL zs up).take k)) ∧ va'.ownBlock ≠ vb.ownBlock ∧ Kept W w1 := by
  have hk' := h.kept.alloc o
  refine ⟨(h.b.alloc o).kept g ?_, ?_, Below.grown hk' g hk'.size (fun j hj => (h.a.lt j hj).1)⟩
  · rcases h.ne with t | t
    · exact .inr (Ne.symm t)
    · exact .inl t.2
  · obtain ⟨q, c, e, q1, q2⟩ : ∃ q c, va' = .slice (some ⟨q, 0, none⟩) (k + 1) c ∧ W.heap.size ≤ q ∧ q < w1.heap.size := by
      rcases own.2 with ⟨_, h0⟩ | ⟨q, c, cur, hv, hb, hg, _⟩
      · omega
      · refine ⟨q, c, hv, hb, ?_⟩
        rcases Nat.lt_or_ge q w1.heap.size with hlt | hge
        · exact hlt
        · rw [Array.getElem?_eq_none hge] at hg; cases hg
    have hs : va'.ownBlock = some q := by rw [e]; rfl
    rcases ha with t | t
    · rcases h.ne with u | u
      · rw [t]; exact u
      · rw [u.1, hs] at t; cases t
    · rw [t]
      intro u
      have := (h.b.lt _ u.symm).2
      omega

theorem OLoop.step {W : World} {zs : List Int} {up : Int} {k : Nat} {va' vb vb' : Value} {w1 w2 : World} {o : Obj} (hk : k < zs.length) (own : w1.ownsRow W.heap.size 35 1 va' (k + 1) (fvals ((oL zs 0).take k) ++ [.float .f64 (oword (zs.getD k 0) 0)]))
    (hne : va'.ownBlock ≠ vb.ownBlock) (K : Kept W w1) (hb : w1.ownsRow W.heap.size 35 1 vb k (fvals ((oL zs up).take k)))
    (own2 : w2.ownsRow W.heap.size 35 1 vb' (k + 1) (fvals ((oL zs up).take k) ++ [.float .f64 (oword (zs.getD k 0) up)]))
    (g : (w1.alloc o).grownBy w2 vb.ownBlock) (ha : vb'.ownBlock = vb.ownBlock ∨ vb'.ownBlock = some (w1.heap.size + 1)) : OLoop W zs up (k + 1) va' vb' w2 := by
  have l0 : k < (oL zs 0).length := by rw [oL_len]; exact hk
  have l1 : k < (oL zs up).length := by rw [oL_len]; exact hk
  have hk' := K.alloc o
  refine ⟨?_, ?_, .inl ?_, Below.grown hk' g hk'.size (fun j hj => (hb.lt j hj).1)⟩
  · have := (own.alloc o).kept g (.inr hne)
    rw [← oL_get zs 0 k hk, fvals_take _ _ l0] at this
    exact this
  · rw [← oL_get zs up k hk, fvals_take _ _ l1] at own2
    exact own2
  · rcases ha with t | t
    · rw [t]; exact hne
    · rw [t]
      intro u
      have := (own.lt _ u).2
      omega

def anyN (ns : List Int) : Nat → Bool
  | 0 => false
  | k + 1 => anyN ns k || (ns.getD k 0 != 0)
theorem anyN_some (ns : List Int) (k : Nat) (h : anyN ns k = true) : ∃ j, j < k ∧ ns.getD j 0 ≠ 0 := by
  induction k with
  | zero => cases h
  | succ k ih =>
    unfold anyN at h
    rw [Bool.or_eq_true] at h
    rcases h with h | h
    · obtain ⟨j, hj, hn⟩ := ih h
      exact ⟨j, by omega, hn⟩
    · exact ⟨k, by omega, by simpa using h⟩

set_option maxRecDepth 100000 in
set_option linter.unusedSimpArgs false in
set_option maxHeartbeats 4000000 in
theorem scaleOneWalk (ao : Option Addr) (n cap : Nat) (zs : List Int) (up : Int) (w : World) (h : IRow w ao n cap zs) (hz : Fits zs) (hn : n * 8 ≤ 140737488355328) (hT : Tab w) :
    Calls Tryd.prog 6 #[.slice ao n cap, .int .i64 up] w fun v w' => v = .returned (.bool true) ∧ Kept w w' := by
  have hnot : ∀ (x : Bool) (w : World), (Op.unary .not (.bool x)).run Tryd.prog w = .ok (.bool (!x)) w := fun _ _ => rfl
  by_cases u1 : up < -900
  · go_enter Tryd.func6, Tryd.ntmps6
    go_wp2_with fail
    refine (awake_calls _ hT).mono ?_
    rintro v wa ⟨rfl, K1⟩
    go_wp2
    go_ret
    exact ⟨rfl, K1⟩
  by_cases u2 : 900 < up
  · go_enter Tryd.func6, Tryd.ntmps6
    go_wp2_with fail
    refine (awake_calls _ hT).mono ?_
    rintro v wa ⟨rfl, K1⟩
    go_wp2
    go_ret
    exact ⟨rfl, K1⟩
  have v1 : -900 ≤ up := by omega
  have v2 : up ≤ 900 := by omega
  obtain ⟨ns, e, g, hA, hB, hl, e1, e2, hg⟩ := one_both zs hz up v1 v2
  have HA := hid_of hA
  have HB := hid_of hB
  have hlen := h.len
  have HG : Hid (∀ j, j < n → ns.getD j 0 ≠ 0 → g = e + up) := fun j hj => hg j (by omega)
  have hnl : ns.length = n := by omega
  have L0 := hid_of (oL_lt zs hz 0 (by omega) (by omega))
  have L1 := hid_of (oL_lt zs hz up v1 v2)
  have hfits : Hid (∀ j, j < n → -2147483648 ≤ zs.getD j 0 ∧ zs.getD j 0 ≤ 2147483647) := fun j hj => hz j (by omega)
  have hk1 : Hid (∀ k, k < n → k < zs.length) := fun k hk => by omega
  have CA : Hid (∀ (ao1 : Option Addr) (cap1 : Nat) (w : World), FRow w ao1 n cap1 (oL zs 0) → Tab w → Calls Tryd.prog 8 #[.slice ao1 n cap1, .int .i64 1099511627776] w fun v w' => (∃ ao' cap', v = .returned (.tuple #[.slice ao' n cap', .int .i64 e, .agg #[.int .i64 0, .int .i64 0]]) ∧ ZRow w' ao' n cap' ns) ∧ Kept w w') := fun ao1 cap1 w F T => by
    have := admit_calls ao1 n cap1 (oL zs 0) 1099511627776 w F L0.out T hn ns e 0 0 HA
    rw [hnl] at this
    exact this
  have CB : Hid (∀ (ao1 : Option Addr) (cap1 : Nat) (w : World), FRow w ao1 n cap1 (oL zs up) → Tab w → Calls Tryd.prog 8 #[.slice ao1 n cap1, .int .i64 1099511627776] w fun v w' => (∃ ao' cap', v = .returned (.tuple #[.slice ao' n cap', .int .i64 g, .agg #[.int .i64 0, .int .i64 0]]) ∧ ZRow w' ao' n cap' ns) ∧ Kept w w') := fun ao1 cap1 w F T => by
    have := admit_calls ao1 n cap1 (oL zs up) 1099511627776 w F L1.out T hn ns g 0 0 HB
    rw [hnl] at this
    exact this
  have hd0 : Hid (∀ wr va vb, ∀ W, OLoop W zs up n va vb wr → (∃ so cp, va = .slice so n cp ∧ FRow wr so n cp (oL zs 0)) ∧ (∃ so cp, vb = .slice so n cp ∧ FRow wr so n cp (oL zs up)) ∧ Kept W wr) := fun wr va vb W R => by
    have t0 : (oL zs 0).take n = oL zs 0 := List.take_of_length_le (by rw [oL_len]; omega)
    have t1 : (oL zs up).take n = oL zs up := List.take_of_length_le (by rw [oL_len]; omega)
    have a := R.a
    have b := R.b
    rw [t0] at a
    rw [t1] at b
    obtain ⟨s1, c1, rfl⟩ := owns_slice1 a
    obtain ⟨s2, c2, rfl⟩ := owns_slice1 b
    exact ⟨⟨s1, c1, rfl, FRow.of_owns (e := 35) (base := W.heap.size) (by rw [oL_len, ← hlen]; exact a) (by rw [oL_len, ← hlen])⟩, ⟨s2, c2, rfl, FRow.of_owns (e := 35) (base := W.heap.size) (by rw [oL_len, ← hlen]; exact b) (by rw [oL_len, ← hlen])⟩, R.kept⟩
  have hr := h.room
  have hm := h.most
  unfold maxLen at hm
  have HC : Hid (0 < n → ∃ b off, ao = some ⟨b, off, none⟩ ∧ ∀ i, i < n → w.cell? ⟨b, off + i, none⟩ = some (.int .i32 (zs.getD i 0))) := h.cell
  obtain ⟨i0, hi, hz0, hz1, hz2⟩ := infoF
  clear hA hB HA HB hl hg hlen hnl h L0 L1 hz
  go_enter Tryd.func6, Tryd.ntmps6
  go_wp2_with fail
  refine (awake_calls _ hT).mono ?_
  rintro v wa ⟨rfl, K1⟩
  have hTa := hid_of (hT.kept K1)
  clear hT
  go_wp2_with fail
  go_loopw [5, 6, 27] (fun va vb i wr => ∃ k : Nat, k ≤ n ∧ i = .int .i64 k ∧ OLoop wa zs up k va vb wr) (fun _ _ i _ => n - (intOf i).toNat)
  case atStart => exact ⟨0, by omega, rfl, ⟨World.ownsRow_nil _ _ _ _, World.ownsRow_nil _ _ _ _, .inr ⟨rfl, rfl⟩, Kept.refl _⟩⟩
  case round =>
    obtain ⟨k, hk, rfl, R⟩ := hrel
    by_cases hgo : (k : Int) < (n : Int)
    · obtain ⟨b, off, rfl, hc⟩ := HC.out (by omega)
      have hcx := (K1.trans R.kept).cell (hc k (by omega))
      obtain ⟨z1, z2⟩ := hfits.out k (by omega)
      have hkz := hid_of (hk1.out k (by omega))
      have CL := hid_of (fun w => Ldexp_calls (zs.getD k 0) up z1 z2 v1 v2 w)
      have hf := int_oword (zs.getD k 0)
      obtain ⟨x0, ex0⟩ : ∃ x, oword (zs.getD k 0) 0 = x := ⟨_, rfl⟩
      obtain ⟨x1, ex1⟩ : ∃ x, oword (zs.getD k 0) up = x := ⟨_, rfl⟩
      rw [ex0] at CL hf
      rw [ex1] at CL
      have EX0 := hid_of ex0
      have EX1 := hid_of ex1
      obtain ⟨z, ez⟩ : ∃ z, zs.getD k 0 = z := ⟨_, rfl⟩
      rw [ez] at hcx hf z1 z2
      clear hc ex0 ex1 ez CA CB hd0
      go_wp2_with (at_builtin; refine wpList_append_own_at _ rfl _ _ 30 rfl wa.heap.size 35 i0 (.float .f64 0) 1 8 Tryd.underlying30 hi hz0 hz1 hz2 rfl (by decide) _ _ _ rfl (R.a.alloc _) ⟨wr.heap.size, 0, none⟩ 1 1 [.float .f64 x0] rfl rfl (cell_new1 _ _ _) (by intro u hu; simp at hu; subst hu; rfl) (by unfold maxLen; omega) (by omega) (by simp; exact Nat.le_succ_of_le R.kept.size) ?_)
      intro va' w1 own1 gr1 _ at1
      obtain ⟨rb, ne1, K2⟩ := R.mid (by rw [EX0.out]; exact own1) gr1 at1
      go_wp2_with (first | (go_at_call 16; refine (CL.out _).mono ?_; rintro e w' ⟨rfl, rfl⟩) | (at_builtin; refine wpList_append_own_at _ rfl _ _ 30 rfl wa.heap.size 35 i0 (.float .f64 0) 1 8 Tryd.underlying30 hi hz0 hz1 hz2 rfl (by decide) _ _ _ rfl (rb.alloc _) ⟨w1.heap.size, 0, none⟩ 1 1 [.float .f64 x1] rfl rfl (cell_new1 _ _ _) (by intro u hu; simp at hu; subst hu; rfl) (by unfold maxLen; omega) (by omega) (by simp; exact Nat.le_succ_of_le K2.size) ?_))
      intro vb' w2 own2 gr2 _ at2
      have ST := hid_of (OLoop.step hkz.out (by rw [EX0.out]; exact own1) ne1 K2 rb (by rw [EX1.out]; exact own2) gr2 at2)
      clear own1 own2 gr1 gr2 at1 at2 ne1 K2 rb R
      go_wp2_with fail
      go_roundw
      case rel => exact ⟨k + 1, by omega, by go_num, ST.out⟩
      case measure => simp [intOf]; omega
    · obtain rfl : k = n := by omega
      obtain ⟨⟨so, cp, rfl, F1⟩, ⟨so2, cp2, rfl, F2⟩, K2⟩ := hd0.out _ _ _ _ R
      have hT2 := hTa.out.kept K2
      have KA := K1.trans K2
      clear R hd0 hTa K1 K2 HC hfits hk1
      go_wp2_with fail
      refine (CA.out so cp _ F1 hT2).mono ?_
      rintro v wb ⟨⟨ao3, cap3, rfl, Z1⟩, K3⟩
      have F3 := hid_of (F2.kept (K3.alloc (Obj.cells #[.int .i64 0, .int .i64 0] 27)))
      have T3 := hid_of (hT2.kept (K3.alloc (Obj.cells #[.int .i64 0, .int .i64 0] 27)))
      clear F1 F2 hT2 CA
      go_wp2_with fail
      refine (CB.out so2 cp2 _ F3.out T3.out).mono ?_
      rintro v wc ⟨⟨ao4, cap4, rfl, Z2⟩, K4⟩
      have Z1' := Z1.kept (((Kept.refl wb).alloc _).trans K4)
      have hc0 : wc.cell? ⟨wb.heap.size, 0, none⟩ = some (.int .i64 0) := K4.cell (by simp [go_sem])
      have hlt := lt_of_cell1 hc0
      simp only at hlt
      have hne : wb.heap.size ≠ wc.heap.size := by omega
      have hc1 : (wc.alloc (Obj.cells #[.int .i64 0, .int .i64 0] 27)).cell? ⟨wb.heap.size, 0, none⟩ = some (.int .i64 0) := ((Kept.refl wc).alloc _).cell hc0
      have KK := hid_of ((KA.trans ((K3.alloc _).trans K4)).alloc (Obj.cells #[.int .i64 0, .int .i64 0] 27))
      have HZ1 := hid_of (Z1'.kept ((Kept.refl wc).alloc (Obj.cells #[.int .i64 0, .int .i64 0] 27)))
      have HZ2 := hid_of (Z2.kept ((Kept.refl wc).alloc (Obj.cells #[.int .i64 0, .int .i64 0] 27)))
      have hm2 := HZ1.out.most
      have hr2 := HZ1.out.room
      have hm3 := HZ2.out.most
      have hr3 := HZ2.out.room
      unfold maxLen at hm2 hm3
      clear CB F3 T3 Z1 Z2 Z1' K3 K4 KA
      go_wp2_with fail
      clear hc0 hc1 hlt hne
      generalize wc.alloc (Obj.cells #[.int .i64 0, .int .i64 0] 27) = W0 at HZ1 HZ2 KK ⊢
      go_loopw [15, 73] (fun y i wr => ∃ j : Nat, j ≤ k ∧ i = .int .i64 (j : Int) ∧ y = .bool (anyN ns j) ∧ ∃ m, wr = W0.drewN m) (fun _ i _ => k - (intOf i).toNat)
      case atStart => exact ⟨0, by omega, rfl, rfl, 0, rfl⟩
      case round =>
        obtain ⟨j, hj, rfl, rfl, m, rfl⟩ := hrel
        by_cases hgo2 : (j : Int) < (k : Int)
        · obtain ⟨b1, o1, rfl, g1⟩ := HZ1.out.cell (by omega)
          obtain ⟨b2, o2, rfl, g2⟩ := HZ2.out.cell (by omega)
          have p1 := g1 j (by omega)
          have p2 := g2 j (by omega)
          have EA : Hid (anyN ns (j + 1) = (anyN ns j || (ns.getD j 0 != 0))) := rfl
          clear g1 g2 HZ1 HZ2
          generalize ns.getD j 0 = x at p1 p2 EA
          have q6 : (x != x) = false := by simp
          generalize anyN ns j = y at EA
          cases y
          · go_wp2
            go_quiet (fail)
            go_wp2
            go_roundw
            case rel => exact ⟨j + 1, by omega, by go_num, by first | rw [EA.out, Bool.false_or] | (rw [EA.out]; rfl), (by first | exact ⟨_, rfl⟩ | exact ⟨_, World.drewN_drewN ..⟩)⟩
            case measure => simp [intOf]; omega
          · go_wp2
            go_quiet (fail)
            go_wp2
            go_roundw
            case rel => exact ⟨j + 1, by omega, by go_num, by first | rw [EA.out, Bool.true_or] | (rw [EA.out]; rfl), (by first | exact ⟨_, rfl⟩ | exact ⟨_, World.drewN_drewN ..⟩)⟩
            case measure => simp [intOf]; omega
        · obtain rfl : j = k := by omega
          have hE : IntKind.i64.wrap (e + up) = e + up := by rw [IntKind.wrap_i64]; first | omega | (unfold wrap64; omega)
          cases hy : anyN ns j with
          | false =>
            go_wp2
            go_ret
            exact ⟨rfl, KK.out.drewN _⟩
          | true =>
            obtain ⟨j', hj', hn'⟩ := anyN_some ns j hy
            have eg := HG.out j' hj' hn'
            subst eg
            have q7 : ((e + up) == (e + up)) = true := by simp
            go_wp2
            go_ret
            exact ⟨rfl, KK.out.drewN _⟩
end Go.Proofs.YtnjnmgpjohfjiabDoor
