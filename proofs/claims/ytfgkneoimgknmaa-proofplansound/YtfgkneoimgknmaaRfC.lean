/- The document's Flows and Max. -/
import Derived.Test.YtfgkneoimgknmaaRfB
import Derived.Deep.DeepCutAuto
import Derived.Deep.CutBlock
namespace Go.Proofs.Ytfgkneoimgknmaa
open Go.RowKit

theorem zAt_map (f : Nat → Int) (n i : Nat) (h : i < n) : zAt ((List.range n).map f) i = f i := by simp [zAt, List.getD, h]
theorem LongAt.row {w : World} {g n : Nat} {f : Nat → Int} (h : LongAt w g n f) (hn : n ≤ maxLen) : JRow w (some ⟨g, 0, none⟩) n n ((List.range n).map f) :=
  ⟨by simp, Nat.le_refl _, hn, fun _ => ⟨g, 0, rfl, fun i hi => by
    have h1 := h.cell hi
    have h2 := zAt_map f n i hi
    unfold zAt at h2
    rw [h2, Nat.zero_add]
    exact h1⟩⟩

/-- The supplies of a flow, as they come out in 64 bits. -/
def flowSupW (s t : Nat) (z : Int) (v : Nat) : Int := if v = t then IntKind.i64.wrap (-z) else if v = s then z else 0

theorem FitsAll.congr {es : List Ed} {N n m : Nat} {on : List Int} {f g : Nat → Int} (h : ∀ v, v < N → f v = g v) : FitsAll es N n on m f ↔ FitsAll es N n on m g :=
  ⟨fun t => ⟨t.1, fun v hv => (t.2 v hv).trans (h v hv)⟩, fun t => ⟨t.1, fun v hv => (t.2 v hv).trans (h v hv).symm⟩⟩

set_option maxRecDepth 100000 in
set_option linter.unusedSimpArgs false in
set_option maxHeartbeats 2000000 in
theorem flowsR_calls (ao : Option Addr) (N n cap : Nat) (es : List Ed) (s t : Nat) (bo : Option Addr) (m bc : Nat) (on : List Int) (z : Int) (w : World) (h : ERow w ao n cap es) (hJ : JRow w bo m bc on) (RG : Right N n es) (hs : s < N) (ht : t < N) :
    Calls Try.prog 32 #[.agg #[.int .i64 (N : Int), .slice ao n cap], .int .i64 (s : Int), .int .i64 (t : Int), .slice bo m bc, .int .i64 z] w fun e w' => Kept w w' ∧ ((FitsAll es N n on m (flowSupW s t z) ∧ e = .returned (.bool true)) ∨ (¬ FitsAll es N n on m (flowSupW s t z) ∧ e = .returned (.bool false))) := by
  have hN := RG.nodes
  have hmk : ∀ w : World, (Instr.makeSlice 25 (.int .i64 (N : Int)) (.int .i64 (N : Int))).run Try.prog w = .ok (.slice (some ⟨w.heap.size, 0, none⟩) N N) (w.alloc (.cells (madeCells #[.int .i64 0] N) 2)) :=
    fun w => run_make_row' 25 2 (.int .i64 0) 8 Try.underlying25 infoL0 rfl .i64 .i64 N (by omega) (by omega) w
  have KW : Kept w (w.alloc (Obj.cells #[.int .i64 (N : Int), .slice ao n cap] 24)) := (Kept.refl w).alloc _
  have hw1 : (w.alloc (Obj.cells #[.int .i64 (N : Int), .slice ao n cap] 24)).heap.size = w.heap.size + 1 := by simp
  have w0 : (w.alloc (Obj.cells #[.int .i64 (N : Int), .slice ao n cap] 24)).cell? ⟨w.heap.size, 0, none⟩ = some (.int .i64 (N : Int)) := by simp [go_sem]
  have w1 : (w.alloc (Obj.cells #[.int .i64 (N : Int), .slice ao n cap] 24)).cell? ⟨w.heap.size, 1, none⟩ = some (.slice ao n cap) := by simp [go_sem]
  have HE := hid_of h
  have HB := hid_of hJ
  have RGH := hid_of RG
  have hsi : (s : Int) < (N : Int) := by omega
  have hti : (t : Int) < (N : Int) := by omega
  clear h hJ RG
  go_enter Try.func32, Try.ntmps32
  go_upto_region 1 with fail
  generalize hW1 : w.alloc (Obj.cells #[.int .i64 (N : Int), .slice ao n cap] 24) = W1 at KW w0 w1 hw1 ⊢
  clear hW1
  have R0 : LongAt (W1.alloc (.cells (madeCells #[.int .i64 0] N) 2)) (w.heap.size + 1) N (fun _ => 0) := by
    rw [← hw1]
    exact World.rowIs_made W1 _ N _
  have KM : Kept W1 (W1.alloc (.cells (madeCells #[.int .i64 0] N) 2)) := (Kept.refl W1).alloc _
  have R0H := hid_of R0
  have KMH := hid_of (KW.trans KM)
  have v0 := KM.cell w0
  have v1 := KM.cell w1
  go_upto_region 2 with fail
  generalize W1.alloc (.cells (madeCells #[.int .i64 0] N) 2) = W2 at R0H KMH v0 v1 ⊢
  clear R0 KM hmk
  have f0 := R0H.out.frozen s
  have c0 := R0H.out.cell hs
  go_upto_region 3 with fail
  have R1 := R0H.out.set s z
  have K1 := KMH.out.setCell (p := ⟨w.heap.size + 1, s, none⟩) (Nat.le_succ _) (.int .i64 z)
  have u0 : (W2.setCell ⟨w.heap.size + 1, s, none⟩ (.int .i64 z)).cell? ⟨w.heap.size, 0, none⟩ = some (.int .i64 (N : Int)) := by
    rw [World.cell?_setCell_other _ _ _ _ (fun e => by have := congrArg Addr.block e; simp at this)]; exact v0
  have u1 : (W2.setCell ⟨w.heap.size + 1, s, none⟩ (.int .i64 z)).cell? ⟨w.heap.size, 1, none⟩ = some (.slice ao n cap) := by
    rw [World.cell?_setCell_other _ _ _ _ (fun e => by have := congrArg Addr.block e; simp at this)]; exact v1
  have R1H := hid_of R1
  have K1H := hid_of K1
  clear R1 K1 f0 c0 v0 v1 R0H KMH
  generalize W2.setCell ⟨w.heap.size + 1, s, none⟩ (.int .i64 z) = W3 at R1H K1H u0 u1 ⊢
  have f0 := R1H.out.frozen t
  have c0 := R1H.out.cell ht
  go_upto_region 4 with fail
  have R2 := R1H.out.set t (IntKind.i64.wrap (-z))
  have K2 := K1H.out.setCell (p := ⟨w.heap.size + 1, t, none⟩) (Nat.le_succ _) (.int .i64 (IntKind.i64.wrap (-z)))
  have x0 : (W3.setCell ⟨w.heap.size + 1, t, none⟩ (.int .i64 (IntKind.i64.wrap (-z)))).cell? ⟨w.heap.size, 0, none⟩ = some (.int .i64 (N : Int)) := by
    rw [World.cell?_setCell_other _ _ _ _ (fun e => by have := congrArg Addr.block e; simp at this)]; exact u0
  have x1 : (W3.setCell ⟨w.heap.size + 1, t, none⟩ (.int .i64 (IntKind.i64.wrap (-z)))).cell? ⟨w.heap.size, 1, none⟩ = some (.slice ao n cap) := by
    rw [World.cell?_setCell_other _ _ _ _ (fun e => by have := congrArg Addr.block e; simp at this)]; exact u1
  have R2H := hid_of R2
  have K2H := hid_of K2
  clear R2 K2 f0 c0 u0 u1 R1H K1H
  have hw64 : ∀ x : Int, IntKind.i64.wrap x = wrap64 x := IntWalk.i64_left
  simp only [hw64] at R2H K2H x0 x1
  generalize W3.setCell ⟨w.heap.size + 1, t, none⟩ (.int .i64 (wrap64 (-z))) = W4 at R2H K2H x0 x1 ⊢
  clear hw64
  go_wp2_with fail
  have C := hid_of (fitsR_calls ao N n cap es bo m bc on (some ⟨w.heap.size + 1, 0, none⟩) N _ W4 (HE.out.kept K2H.out) (HB.out.kept K2H.out) (R2H.out.row (by unfold maxLen; omega)) RGH.out)
  refine C.out.mono ?_
  have SE : ∀ v, v < N → zAt ((List.range N).map (fun j => if j = t then wrap64 (-z) else if j = s then z else 0)) v = flowSupW s t z v := fun v hv => by
    rw [zAt_map _ _ _ hv]
    unfold flowSupW
    rw [IntWalk.i64_left]
  have SEH := hid_of (FitsAll.congr (es := es) (n := n) (m := m) (on := on) SE)
  rintro e w5 ⟨K5, ⟨fit, rfl⟩ | ⟨fit, rfl⟩⟩
  · have F := hid_of (SEH.out.1 fit)
    have K6 := hid_of (K2H.out.trans K5)
    clear fit C SE K5 R2H K2H x0 x1
    go_wp2
    go_ret
    exact ⟨K6.out, .inl ⟨F.out, rfl⟩⟩
  · have F := hid_of (fun t => fit (SEH.out.2 t))
    have K6 := hid_of (K2H.out.trans K5)
    clear fit C SE K5 R2H K2H x0 x1
    go_wp2
    go_ret
    exact ⟨K6.out, .inr ⟨F.out, rfl⟩⟩

theorem flowSup_eq {s t : Nat} {z : Int} (hz : -9223372036854775807 ≤ z ∧ z ≤ 9223372036854775807) (v : Nat) : flowSupW s t z v = flowSup s t z v := by
  unfold flowSupW flowSup
  rw [wrap_id (by omega) (by omega)]
  simp only [Int.natCast_inj]

/-- What the document asks of a flow and a side. -/
theorem maxOk_iff {N n : Nat} {es : List Ed} (RG : Right N n es) (on : List Int) (m : Nat) (bs : List Bool) (k : Nat) (s t : Nat) (hs : s < N) (ht : t < N) (hne : s ≠ t) :
    MaxOk es N n on m bs k s t ↔ (k = N ∧ bAt bs s = true ∧ bAt bs t = false) ∧ FitsAll es N n on m (flowSupW s t (cutTo es (bAt bs) n)) := by
  have hc := cut_bd RG (bAt bs) n (Nat.le_refl _)
  rw [FitsAll.congr (fun v _ => flowSup_eq (s := s) (t := t) (by omega) v)]
  unfold MaxOk FitsAll
  have key := flow_iff es (zAt on) N n RG.ends s t (by omega) (by omega) (by omega) (by omega) (by omega) (cutTo es (bAt bs) n)
  simp only [Int.natCast_inj] at key
  constructor
  · rintro ⟨h1, h2, h3, h4, h5⟩
    exact ⟨⟨h2, h4⟩, h1, key.1 ⟨h3, h5⟩⟩
  · rintro ⟨⟨h2, h4⟩, h1, h3⟩
    have := key.2 h3
    exact ⟨h1, h2, this.1, h4, this.2⟩

set_option maxRecDepth 100000 in
set_option linter.unusedSimpArgs false in
set_option maxHeartbeats 2000000 in
theorem maxR_calls (nodes : Int) (ao : Option Addr) (n cap : Nat) (es : List Ed) (s t : Int) (bo : Option Addr) (m bc : Nat) (on : List Int) (so : Option Addr) (k sc : Nat) (bs : List Bool) (w : World) (h : ERow w ao n cap es) (hJ : JRow w bo m bc on) (hB : BRow w so k sc bs) (v code : Int) (hans : Hid (maxAns nodes es n s t on m bs k = (v, code))) :
    Calls Try.prog 17 #[.agg #[.int .i64 nodes, .slice ao n cap], .int .i64 s, .int .i64 t, .slice bo m bc, .slice so k sc] w fun e w' => e = .returned (.tuple #[.int .i64 v, .int .i64 code]) ∧ Kept w w' := by
  have hr2 := hB.room
  have hm2 := hB.most
  unfold maxLen at hm2
  have KW : Kept w (w.alloc (Obj.cells #[.int .i64 nodes, .slice ao n cap] 24)) := (Kept.refl w).alloc _
  have w0 : (w.alloc (Obj.cells #[.int .i64 nodes, .slice ao n cap] 24)).cell? ⟨w.heap.size, 0, none⟩ = some (.int .i64 nodes) := by simp [go_sem]
  have w1 : (w.alloc (Obj.cells #[.int .i64 nodes, .slice ao n cap] 24)).cell? ⟨w.heap.size, 1, none⟩ = some (.slice ao n cap) := by simp [go_sem]
  have HE := hid_of h
  have HJ := hid_of hJ
  have HB := hid_of hB
  have EN := hid_of (ends_calls nodes ao n cap es _ (h.kept KW) s t _ (hid_of rfl))
  obtain ⟨z, hz⟩ : ∃ z, endsOf nodes es s t = z := ⟨_, rfl⟩
  rw [hz] at EN
  replace hans := hans.out
  have hz' := hz
  clear h hJ hB
  unfold maxAns at hans
  unfold endsOf at hz'
  have go0 : z ≠ 0 → v = 0 ∧ code = z := fun hne => by
    split at hans
    · rename_i q; rw [if_pos q] at hz'; obtain ⟨rfl, rfl⟩ := Prod.mk.inj hans; exact ⟨rfl, hz'⟩
    · rename_i q
      rw [if_neg q] at hz'
      split at hans
      · rename_i q; rw [if_pos q] at hz'; obtain ⟨rfl, rfl⟩ := Prod.mk.inj hans; exact ⟨rfl, hz'⟩
      · rename_i q
        rw [if_neg q] at hz'
        split at hans
        · rename_i q; rw [if_pos q] at hz'; obtain ⟨rfl, rfl⟩ := Prod.mk.inj hans; exact ⟨rfl, hz'⟩
        · rename_i q; rw [if_neg q] at hz'; exact absurd hz'.symm hne
  by_cases hne : z = 0
  rotate_left
  · obtain ⟨rfl, rfl⟩ := go0 hne
    have q : (code != 0) = true := by simpa using hne
    clear hans hz hz' go0
    go_enter Try.func17, Try.ntmps17
    go_wp2_with fail
    refine EN.out.mono ?_
    rintro e wa ⟨rfl, K1⟩
    have HK := hid_of (KW.trans K1)
    clear KW K1 EN w0 w1
    go_wp2
    go_ret2
    exact ⟨rfl, HK.out⟩
  subst hne
  clear go0
  have hc0 : (faultOf nodes es).1 = 0 := by
    by_cases q : (faultOf nodes es).1 = 0
    · exact q
    · rw [if_pos q] at hz'; exact absurd hz' q
  rw [if_neg (by simp [hc0])] at hans hz'
  by_cases hb : ¬ (0 ≤ s ∧ s < nodes) ∨ ¬ (0 ≤ t ∧ t < nodes)
  · rw [if_pos hb] at hz'; exact absurd hz' (by decide)
  rw [if_neg hb] at hans hz'
  by_cases hst : s = t
  · rw [if_pos hst] at hz'; exact absurd hz' (by decide)
  rw [if_neg hst] at hans
  have hs : 0 ≤ s ∧ s < nodes := Classical.not_not.1 fun t => hb (.inl t)
  have ht : 0 ≤ t ∧ t < nodes := Classical.not_not.1 fun t => hb (.inr t)
  have hf : faultOf nodes es = (0, 0) := by
    by_cases h2 : nodes < 0 ∨ 1024 < nodes ∨ 4096 < es.length
    · unfold faultOf at hc0; rw [if_pos h2] at hc0; simp at hc0
    · unfold faultOf at hc0 ⊢; rw [if_neg h2] at hc0 ⊢; exact fault_clean nodes es _ hc0
  obtain ⟨N, rfl, RG⟩ := right_of hf
  rw [← HE.out.len] at RG
  obtain ⟨s', rfl⟩ : ∃ s' : Nat, s = (s' : Int) := ⟨s.toNat, by omega⟩
  obtain ⟨t', rfl⟩ : ∃ t' : Nat, t = (t' : Int) := ⟨t.toNat, by omega⟩
  simp only [Int.toNat_natCast] at hans
  have hsN : s' < N := by omega
  have htN : t' < N := by omega
  have hne2 : s' ≠ t' := fun e => hst (by rw [e])
  have hcb := cut_bd RG (bAt bs) n (Nat.le_refl _)
  have IFF := hid_of (maxOk_iff RG on m bs k s' t' hsN htN hne2)
  have HA := hid_of hans
  have RGH := hid_of RG
  have hnot : ∀ (x : Bool) (w : World), (Op.unary .not (.bool x)).run Try.prog w = .ok (.bool (!x)) w := fun _ _ => rfl
  have hsi : (s' : Int) < (N : Int) := by omega
  have hti : (t' : Int) < (N : Int) := by omega
  clear hans hz hz' hb hst hc0 RG hf hs ht
  go_enter Try.func17, Try.ntmps17
  go_wp2_with fail
  refine EN.out.mono ?_
  rintro e wa ⟨rfl, K1⟩
  replace w0 := K1.cell w0
  replace w1 := K1.cell w1
  have HK := hid_of (KW.trans K1)
  clear KW K1 EN
  by_cases hkN : k = N
  rotate_left
  · have q : ((k : Int) != (N : Int)) = true := by simp; omega
    have e := HA.out
    rw [if_neg (fun t => hkN (IFF.out.1 t).1.1)] at e
    obtain ⟨rfl, rfl⟩ := Prod.mk.inj e
    clear HA e
    go_wp2
    go_ret2
    exact ⟨rfl, HK.out⟩
  subst hkN
  have q : ((k : Int) != (k : Int)) = false := by simp
  obtain ⟨b2, off2, rfl, hc2⟩ := (HB.out.kept HK.out).at (by omega)
  have b1 := hc2 s' hsN
  have b3 := hc2 t' htN
  clear hc2
  by_cases hp1 : bAt bs s' = true
  rotate_left
  · have e := HA.out
    rw [if_neg (fun t => hp1 (IFF.out.1 t).1.2.1)] at e
    obtain ⟨rfl, rfl⟩ := Prod.mk.inj e
    rw [Bool.not_eq_true] at hp1
    rw [hp1] at b1
    clear HA e hp1
    go_wp2
    go_ret2
    exact ⟨rfl, HK.out⟩
  by_cases hp2 : bAt bs t' = false
  rotate_left
  · have e := HA.out
    rw [if_neg (fun t => hp2 (IFF.out.1 t).1.2.2)] at e
    obtain ⟨rfl, rfl⟩ := Prod.mk.inj e
    rw [Bool.not_eq_false] at hp2
    rw [hp1] at b1
    rw [hp2] at b3
    clear HA e hp1 hp2
    go_wp2
    go_ret2
    exact ⟨rfl, HK.out⟩
  rw [hp1] at b1
  rw [hp2] at b3
  have IF2 : Hid (MaxOk es k n on m bs k s' t' ↔ FitsAll es k n on m (flowSupW s' t' (cutTo es (bAt bs) n))) := ⟨fun t => (IFF.out.1 t).2, fun t => IFF.out.2 ⟨⟨rfl, hp1, hp2⟩, t⟩⟩
  clear hp1 hp2 IFF
  go_wp2_with fail
  refine (cutR_calls (k : Int) ao k n cap es _ sc bs wa (HE.out.kept HK.out) (HB.out.kept HK.out) RGH.out).mono ?_
  rintro e wb ⟨rfl, K2⟩
  replace w0 := K2.cell w0
  replace w1 := K2.cell w1
  have HK2 := hid_of (HK.out.trans K2)
  clear K2 HK b1 b3
  go_wp2_with fail
  refine (flowsR_calls ao k n cap es s' t' bo m bc on (cutTo es (bAt bs) n) wb (HE.out.kept HK2.out) (HJ.out.kept HK2.out) RGH.out hsN htN).mono ?_
  rintro e wc ⟨K3, ⟨fit, rfl⟩ | ⟨fit, rfl⟩⟩
  · have e := HA.out
    rw [if_pos (IF2.out.2 fit)] at e
    obtain ⟨rfl, rfl⟩ := Prod.mk.inj e
    have HK3 := hid_of (HK2.out.trans K3)
    clear HA e fit K3 HK2 w0 w1
    go_wp2
    go_ret2
    exact ⟨rfl, HK3.out⟩
  · have e := HA.out
    rw [if_neg (fun t => fit (IF2.out.1 t))] at e
    obtain ⟨rfl, rfl⟩ := Prod.mk.inj e
    have HK3 := hid_of (HK2.out.trans K3)
    clear HA e fit K3 HK2 w0 w1
    go_wp2
    go_ret2
    exact ⟨rfl, HK3.out⟩
end Go.Proofs.Ytfgkneoimgknmaa
