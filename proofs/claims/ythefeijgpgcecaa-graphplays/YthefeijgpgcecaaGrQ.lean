/- The law's edits: edit. -/
import Derived.Test.YthefeijgpgcecaaGrP
namespace Go.Proofs.Ythefeijgpgcecaa
open Go.RowKit

/-- A row that lies aside of the blocks of F. -/
def AsideE (F : Nat → Prop) (ao : Option Addr) (n : Nat) : Prop := 0 < n → ∀ a, ao = some a → ¬ F a.block

theorem ERow.ch {w w' : World} {F : Nat → Prop} {ao : Option Addr} {n cap : Nat} {es : List Ed} (h : ERow w ao n cap es) (C : Ch F w w') (hA : AsideE F ao n) : ERow w' ao n cap es :=
  ⟨h.len, h.room, h.most, fun hn => by
    obtain ⟨b, off, e, hc⟩ := h.cell hn
    have nF : ¬ F b := hA hn ⟨b, off, none⟩ e
    refine ⟨b, off, e, fun i hi => ?_⟩
    obtain ⟨h1, h2, h3, h4⟩ := hc i hi
    exact ⟨C.cell h1 nF, C.cell h2 nF, C.cell h3 nF, C.cell h4 nF⟩⟩

/-- What an edit leaves. -/
structure EditPost (w : World) (F : Nat → Prop) (p : Nat) (ao : Option Addr) (n : Nat) (w' : World) (n' : Int) (zs : List Ed) (ao' : Option Addr) (m' cap' : Nat) : Prop where
  fresh : Fresh w.heap.size ao n ao' m'
  ex : ∃ F', NetF w' F' p n' zs ∧ AsideE F' ao' m' ∧ ∀ k, F' k → F k ∨ w.heap.size ≤ k
  row : ERow w' ao' m' cap' zs
  nil : ao' = none → m' = 0 ∧ cap' = 0
  ch : Ch F w w'

theorem edit_post {w W1 w4 w5 : World} {F F' : Nat → Prop} {p n cap m' cap' b6 : Nat} {nd n' : Int} {xs zs : List Ed} {ao ao' : Option Addr} {o : Obj} {u0 u1 : Value}
    (hE : ERow w ao n cap xs) (hA : AsideE F ao n) (N : NetF w F p nd xs) (K0 : Kept w W1) (K4 : Kept W1 w4) (E4 : ERow w4 ao' m' cap' zs) (hn : ao' = none → m' = 0 ∧ cap' = 0) (FR : Fresh W1.heap.size ao n ao' m')
    (N5 : NetF w5 F' p n' zs) (C5 : Ch F (w4.alloc o) w5) (L5 : ∀ k, F' k → F k ∨ (w4.alloc o).heap.size ≤ k) (h6 : w.heap.size ≤ b6) (h7 : b6 < W1.heap.size) :
    EditPost w F p ao n ((w5.setCell ⟨b6, 0, none⟩ u0).setCell ⟨b6, 1, none⟩ u1) n' zs ao' m' cap' := by
  have lwF : ∀ k, F k → k < w.heap.size := N.lt
  have s0 := K0.size
  have s4 := K4.size
  have KA : Kept w4 (w4.alloc o) := (Kept.refl w4).alloc o
  have sA := KA.size
  have nF6 : ¬ F b6 := fun t => by have := lwF _ t; omega
  have nF6' : ¬ F' b6 := fun t => by
    rcases L5 _ t with s | s
    · exact nF6 s
    · omega
  have A' : AsideE F ao' m' := fun hm a ha t => by
    rcases FR with ⟨rfl, rfl⟩ | f
    · exact hA hm a ha t
    · have := f a ha; have := lwF _ t; omega
  have lt' : 0 < m' → ∀ a, ao' = some a → a.block < w4.heap.size := fun hm a ha => by
    obtain ⟨b, off, e, hc⟩ := E4.cell hm
    rw [ha] at e
    simp only [Option.some.injEq] at e
    subst e
    exact lt_cell (hc 0 hm).1
  have A5 : AsideE F' ao' m' := fun hm a ha t => by
    rcases L5 _ t with s | s
    · exact A' hm a ha s
    · have := lt' hm a ha; omega
  have E5 := (E4.kept KA).ch C5 A'
  have C6 : Ch (fun x => x = b6) w5 ((w5.setCell ⟨b6, 0, none⟩ u0).setCell ⟨b6, 1, none⟩ u1) :=
    ((Ch.refl (fun x => x = b6) w5).setCell (F := fun x => x = b6) (p := ⟨b6, 0, none⟩) rfl _).setCell (F := fun x => x = b6) (p := ⟨b6, 1, none⟩) rfl _
  have A6 : AsideE (fun x => x = b6) ao' m' := fun hm a ha t => by
    rcases FR with ⟨rfl, rfl⟩ | f
    · obtain ⟨b, off, e, hc⟩ := hE.cell hm
      rw [ha] at e
      simp only [Option.some.injEq] at e
      subst e
      have := lt_cell (hc 0 hm).1
      simp only at this t
      omega
    · have := f a ha; omega
  have FRw : Fresh w.heap.size ao n ao' m' := by
    rcases FR with t | f
    · exact .inl t
    · exact .inr fun a ha => by have := f a ha; omega
  refine ⟨FRw, ⟨F', N5.far C6 (fun k hk e => nF6' (e ▸ hk)), A5, fun k hk => ?_⟩, E5.ch C6 A6, hn, ?_⟩
  · rcases L5 k hk with s | s
    · exact .inl s
    · exact .inr (by omega)
  · exact (((Ch.of_kept ((K0.trans K4).trans KA)).trans C5)).trans' C6 (fun i hi => .inr (by omega))

theorem edit_same {w w5 : World} {F : Nat → Prop} {p n cap b6 : Nat} {nd : Int} {xs : List Ed} {ao : Option Addr} {u0 u1 : Value}
    (hE : ERow w ao n cap xs) (hn : ao = none → n = 0 ∧ cap = 0) (hA : AsideE F ao n) (N : NetF w F p nd xs) (K5 : Kept w w5) (h6 : w.heap.size ≤ b6) :
    EditPost w F p ao n ((w5.setCell ⟨b6, 0, none⟩ u0).setCell ⟨b6, 1, none⟩ u1) nd xs ao n cap := by
  have C6 : Ch (fun x => x = b6) w5 ((w5.setCell ⟨b6, 0, none⟩ u0).setCell ⟨b6, 1, none⟩ u1) :=
    ((Ch.refl (fun x => x = b6) w5).setCell (F := fun x => x = b6) (p := ⟨b6, 0, none⟩) rfl _).setCell (F := fun x => x = b6) (p := ⟨b6, 1, none⟩) rfl _
  have A6 : AsideE (fun x => x = b6) ao n := fun hm a ha t => by
    obtain ⟨b, off, e, hc⟩ := hE.cell hm
    rw [ha] at e
    simp only [Option.some.injEq] at e
    subst e
    have := lt_cell (hc 0 hm).1
    simp only at this t
    omega
  refine ⟨.inl ⟨rfl, rfl⟩, ⟨F, (N.kept K5).far C6 (fun k hk e => ?_), hA, fun k hk => .inl hk⟩, (hE.kept K5).ch C6 A6, hn, ?_⟩
  · have := N.lt k hk; omega
  · exact (Ch.of_kept K5).trans' C6 (fun i hi => .inr (by omega))

set_option maxRecDepth 100000 in
set_option linter.unusedSimpArgs false in
set_option maxHeartbeats 4000000 in
theorem edit_calls (w : World) (F : Nat → Prop) (p : Nat) (nd : Int) (xs : List Ed) (h : NetF w F p nd xs) (hR : Right nd xs) (ao : Option Addr) (n cap : Nat) (hE : ERow w ao n cap xs) (hnil : ao = none → n = 0 ∧ cap = 0) (hA : AsideE F ao n) (o : GOp) (n' : Int) (zs : List Ed) (c : Int) (he : Hid (editOf nd xs o = (n', zs, c))) (m' : Nat) (hm : Hid (zs.length = m')) :
    Calls Try.prog 9 #[.pointer (some ⟨p, 0, none⟩), .agg #[.int .i64 nd, .slice ao n cap], o.val] w fun r w' => ∃ ao' cap', r = .returned (.tuple #[.agg #[.int .i64 n', .slice ao' m' cap'], .bool true]) ∧ EditPost w F p ao n w' n' zs ao' m' cap' := by
  obtain ⟨x0, x1, y0, y1, y2, y3⟩ := o
  have HL := hid_of hE.len
  have HW := hid_of h
  have HE := hid_of hE
  have HR := hid_of hR
  have HA := hid_of hA
  have HNIL := hid_of hnil
  have hlen : n ≤ 4096 := by have := hR.len; have := hE.len; omega
  have KG : Kept w (((w.alloc (Obj.cells #[.int .i64 nd, .slice ao n cap] 24)).alloc (Obj.cells #[.int .i64 x0, .int .i64 x1, .int .i64 y0, .int .i64 y1, .int .i64 y2, .int .i64 y3] 38)).alloc (Obj.cells #[.int .i64 0, .slice none 0 0] 24)) := (((Kept.refl w).alloc _).alloc _).alloc _
  have g0 : (((w.alloc (Obj.cells #[.int .i64 nd, .slice ao n cap] 24)).alloc (Obj.cells #[.int .i64 x0, .int .i64 x1, .int .i64 y0, .int .i64 y1, .int .i64 y2, .int .i64 y3] 38)).alloc (Obj.cells #[.int .i64 0, .slice none 0 0] 24)).cell? ⟨w.heap.size, 0, none⟩ = some (.int .i64 nd) := by simp [go_sem]
  have g1 : (((w.alloc (Obj.cells #[.int .i64 nd, .slice ao n cap] 24)).alloc (Obj.cells #[.int .i64 x0, .int .i64 x1, .int .i64 y0, .int .i64 y1, .int .i64 y2, .int .i64 y3] 38)).alloc (Obj.cells #[.int .i64 0, .slice none 0 0] 24)).cell? ⟨w.heap.size, 1, none⟩ = some (.slice ao n cap) := by simp [go_sem]
  have q0 : (((w.alloc (Obj.cells #[.int .i64 nd, .slice ao n cap] 24)).alloc (Obj.cells #[.int .i64 x0, .int .i64 x1, .int .i64 y0, .int .i64 y1, .int .i64 y2, .int .i64 y3] 38)).alloc (Obj.cells #[.int .i64 0, .slice none 0 0] 24)).cell? ⟨w.heap.size + 1, 0, none⟩ = some (.int .i64 x0) := by simp [go_sem]
  have q1 : (((w.alloc (Obj.cells #[.int .i64 nd, .slice ao n cap] 24)).alloc (Obj.cells #[.int .i64 x0, .int .i64 x1, .int .i64 y0, .int .i64 y1, .int .i64 y2, .int .i64 y3] 38)).alloc (Obj.cells #[.int .i64 0, .slice none 0 0] 24)).cell? ⟨w.heap.size + 1, 1, none⟩ = some (.int .i64 x1) := by simp [go_sem]
  have q2 : (((w.alloc (Obj.cells #[.int .i64 nd, .slice ao n cap] 24)).alloc (Obj.cells #[.int .i64 x0, .int .i64 x1, .int .i64 y0, .int .i64 y1, .int .i64 y2, .int .i64 y3] 38)).alloc (Obj.cells #[.int .i64 0, .slice none 0 0] 24)).cell? ⟨w.heap.size + 1, 2, none⟩ = some (.int .i64 y0) := by simp [go_sem]
  have q3 : (((w.alloc (Obj.cells #[.int .i64 nd, .slice ao n cap] 24)).alloc (Obj.cells #[.int .i64 x0, .int .i64 x1, .int .i64 y0, .int .i64 y1, .int .i64 y2, .int .i64 y3] 38)).alloc (Obj.cells #[.int .i64 0, .slice none 0 0] 24)).cell? ⟨w.heap.size + 1, 3, none⟩ = some (.int .i64 y1) := by simp [go_sem]
  have q4 : (((w.alloc (Obj.cells #[.int .i64 nd, .slice ao n cap] 24)).alloc (Obj.cells #[.int .i64 x0, .int .i64 x1, .int .i64 y0, .int .i64 y1, .int .i64 y2, .int .i64 y3] 38)).alloc (Obj.cells #[.int .i64 0, .slice none 0 0] 24)).cell? ⟨w.heap.size + 1, 4, none⟩ = some (.int .i64 y2) := by simp [go_sem]
  have q5 : (((w.alloc (Obj.cells #[.int .i64 nd, .slice ao n cap] 24)).alloc (Obj.cells #[.int .i64 x0, .int .i64 x1, .int .i64 y0, .int .i64 y1, .int .i64 y2, .int .i64 y3] 38)).alloc (Obj.cells #[.int .i64 0, .slice none 0 0] 24)).cell? ⟨w.heap.size + 1, 5, none⟩ = some (.int .i64 y3) := by simp [go_sem]
  have f0 : (((w.alloc (Obj.cells #[.int .i64 nd, .slice ao n cap] 24)).alloc (Obj.cells #[.int .i64 x0, .int .i64 x1, .int .i64 y0, .int .i64 y1, .int .i64 y2, .int .i64 y3] 38)).alloc (Obj.cells #[.int .i64 0, .slice none 0 0] 24)).cell? ⟨w.heap.size + 2, 0, none⟩ = some (.int .i64 0) := by simp [go_sem]
  have f1 : (((w.alloc (Obj.cells #[.int .i64 nd, .slice ao n cap] 24)).alloc (Obj.cells #[.int .i64 x0, .int .i64 x1, .int .i64 y0, .int .i64 y1, .int .i64 y2, .int .i64 y3] 38)).alloc (Obj.cells #[.int .i64 0, .slice none 0 0] 24)).cell? ⟨w.heap.size + 2, 1, none⟩ = some (.slice none 0 0) := by simp [go_sem]
  have f2 : (((w.alloc (Obj.cells #[.int .i64 nd, .slice ao n cap] 24)).alloc (Obj.cells #[.int .i64 x0, .int .i64 x1, .int .i64 y0, .int .i64 y1, .int .i64 y2, .int .i64 y3] 38)).alloc (Obj.cells #[.int .i64 0, .slice none 0 0] 24)).frozen? ⟨w.heap.size + 2, 0, none⟩ = false := by simp [go_sem]
  have f3 : (((w.alloc (Obj.cells #[.int .i64 nd, .slice ao n cap] 24)).alloc (Obj.cells #[.int .i64 x0, .int .i64 x1, .int .i64 y0, .int .i64 y1, .int .i64 y2, .int .i64 y3] 38)).alloc (Obj.cells #[.int .i64 0, .slice none 0 0] 24)).frozen? ⟨w.heap.size + 2, 1, none⟩ = false := by simp [go_sem]
  have hss := he.out
  unfold editOf at hss
  have HS := hid_of hss
  clear h hR hE hA hnil he hss
  by_cases h0 : x0 = 0
  · subst h0
    have hss := HS.out
    rw [if_pos rfl] at hss
    obtain ⟨na, ra, ca, hAN⟩ : ∃ na ra ca, Hid (addNodeOf nd = (na, ra, ca)) := ⟨_, _, _, hid_of rfl⟩
    rw [hAN.out] at hss
    simp only [Prod.mk.injEq] at hss
    obtain ⟨rfl, rfl, rfl⟩ := hss
    obtain rfl : n = m' := HL.out.trans hm.out
    clear HS
    go_enter Try.func9, Try.ntmps9
    go_wp2_with fail
    generalize hW1 : ((w.alloc (Obj.cells #[.int .i64 nd, .slice ao n cap] 24)).alloc (Obj.cells #[.int .i64 0, .int .i64 x1, .int .i64 y0, .int .i64 y1, .int .i64 y2, .int .i64 y3] 38)).alloc (Obj.cells #[.int .i64 0, .slice none 0 0] 24) = W1 at *
    clear hW1
    have lw1 : w.heap.size + 2 < W1.heap.size := lt_cell f0
    refine (addNodeR_calls nd ao n cap xs W1 (HE.out.kept KG) HR.out.lo HR.out.hi hlen HNIL.out _ _ _ hAN).mono ?_
    rintro r w4 ⟨ao', cap', rfl, E4, nil4, FR4, K4⟩
    have K4a := K4.alloc (Obj.cells #[.int .i64 na, .slice ao' n cap'] 24)
    replace g0 := K4a.cell g0
    replace g1 := K4a.cell g1
    replace q0 := K4a.cell q0
    replace q1 := K4a.cell q1
    replace q2 := K4a.cell q2
    replace q3 := K4a.cell q3
    replace q4 := K4a.cell q4
    replace q5 := K4a.cell q5
    replace f2 := (Below.frozen (p := ⟨w.heap.size + 2, 0, none⟩) K4a (lt_cell f0)).trans f2
    replace f3 := (Below.frozen (p := ⟨w.heap.size + 2, 1, none⟩) K4a (lt_cell f1)).trans f3
    replace f0 := K4a.cell f0
    replace f1 := K4a.cell f1
    have N4 := hid_of (HW.out.kept (KG.trans K4a))
    have s0 : (w4.alloc (Obj.cells #[.int .i64 na, .slice ao' n cap'] 24)).cell? ⟨w4.heap.size, 0, none⟩ = some (.int .i64 na) := by simp [go_sem]
    have s1 : (w4.alloc (Obj.cells #[.int .i64 na, .slice ao' n cap'] 24)).cell? ⟨w4.heap.size, 1, none⟩ = some (.slice ao' n cap') := by simp [go_sem]
    have l4 : w.heap.size + 2 < w4.heap.size := Nat.lt_of_lt_of_le lw1 K4.size
    have LF : Hid (∀ k, F k → k < w.heap.size) := HW.out.lt
    have nF6 : ¬ F (w.heap.size + 2) := fun t => by have := LF.out _ t; omega
    have nF4 : ¬ F w4.heap.size := fun t => by have := LF.out _ t; omega
    have EP := hid_of (fun w5 F' u0 u1 N5 C5 L5 => edit_post (w5 := w5) (F' := F') (n' := na) (u0 := u0) (u1 := u1) (o := (Obj.cells #[.int .i64 na, .slice ao' n cap'] 24)) HE.out HA.out HW.out KG K4 E4 nil4 FR4 N5 C5 L5 (b6 := w.heap.size + 2) (by omega) lw1)
    have l6 : w.heap.size + 2 < (w4.alloc (Obj.cells #[.int .i64 na, .slice ao' n cap'] 24)).heap.size := Nat.lt_of_lt_of_le lw1 K4a.size
    clear K4 K4a E4 nil4 FR4 KG HE HA HW HNIL
    have NC := hid_of (addNode_calls _ F p nd xs N4.out HR.out.lo _ _ _ hAN)
    clear N4
    go_wp2_with fail
    refine NC.out.mono ?_
    rintro r w5 ⟨rfl, N5, C5⟩
    have L5 : ∀ k, F k → F k ∨ (w4.alloc (Obj.cells #[.int .i64 na, .slice ao' n cap'] 24)).heap.size ≤ k := fun k t => .inl t
    have t0 := C5.cell s0 nF4
    have t1 := C5.cell s1 nF4
    have b0 := C5.cell f0 nF6
    have b1 := C5.cell f1 nF6
    have b2 := (C5.frozen (o := 0) l6 nF6).trans f2
    have b3 := (C5.frozen (o := 1) l6 nF6).trans f3
    obtain ⟨u1, u2, u3, u4⟩ := box2w b0 b1 (.int .i64 na) (.slice ao' n cap')
    have PZ := hid_of (EP.out w5 _ (.int .i64 na) (.slice ao' n cap') N5 C5 L5)
    have qa : (ra == ra) = true := by simp
    have qb : (ca == ca) = true := by simp
    clear EP NC N5 C5 L5 s0 s1 f0 f1 f2 f3 g0 g1 q0 q1 q2 q3 q4 q5
    go_wp2_with fail
    exact bodyPost_ret (v := .tuple #[.agg #[.int .i64 na, .slice ao' n cap'], .bool true]) (by simp [results, Try.results9, go_sem, u3, u4]) rfl ⟨ao', cap', rfl, PZ.out⟩
  · have k0 : (x0 == 0) = false := by simpa using h0
    by_cases h1 : x0 = 1
    · subst h1
      have hss := HS.out
      simp only [show ¬ (1 : Int) = 0 by decide, if_false, if_true] at hss
      obtain ⟨za, ra, ca, hAN⟩ : ∃ za ra ca, Hid (addOf nd xs ⟨y0, y1, y2, y3⟩ = (za, ra, ca)) := ⟨_, _, _, hid_of rfl⟩
      rw [hAN.out] at hss
      simp only [Prod.mk.injEq] at hss
      obtain ⟨rfl, rfl, rfl⟩ := hss
      clear HS
      go_enter Try.func9, Try.ntmps9
      go_wp2_with fail
      generalize hW1 : ((w.alloc (Obj.cells #[.int .i64 nd, .slice ao n cap] 24)).alloc (Obj.cells #[.int .i64 1, .int .i64 x1, .int .i64 y0, .int .i64 y1, .int .i64 y2, .int .i64 y3] 38)).alloc (Obj.cells #[.int .i64 0, .slice none 0 0] 24) = W1 at *
      clear hW1
      have lw1 : w.heap.size + 2 < W1.heap.size := lt_cell f0
      have DC := hid_of (addEdgeR_calls nd ao n cap xs ⟨y0, y1, y2, y3⟩ W1 (HE.out.kept KG) hlen HNIL.out _ _ _ hAN)
      rw [hm.out] at DC
      refine DC.out.mono ?_
      clear DC
      rintro r w4 ⟨ao', cap', rfl, E4, nil4, FR4, K4⟩
      have K4a := K4.alloc (Obj.cells #[.int .i64 nd, .slice ao' m' cap'] 24)
      replace g0 := K4a.cell g0
      replace g1 := K4a.cell g1
      replace q0 := K4a.cell q0
      replace q1 := K4a.cell q1
      replace q2 := K4a.cell q2
      replace q3 := K4a.cell q3
      replace q4 := K4a.cell q4
      replace q5 := K4a.cell q5
      replace f2 := (Below.frozen (p := ⟨w.heap.size + 2, 0, none⟩) K4a (lt_cell f0)).trans f2
      replace f3 := (Below.frozen (p := ⟨w.heap.size + 2, 1, none⟩) K4a (lt_cell f1)).trans f3
      replace f0 := K4a.cell f0
      replace f1 := K4a.cell f1
      have N4 := hid_of (HW.out.kept (KG.trans K4a))
      have s0 : (w4.alloc (Obj.cells #[.int .i64 nd, .slice ao' m' cap'] 24)).cell? ⟨w4.heap.size, 0, none⟩ = some (.int .i64 nd) := by simp [go_sem]
      have s1 : (w4.alloc (Obj.cells #[.int .i64 nd, .slice ao' m' cap'] 24)).cell? ⟨w4.heap.size, 1, none⟩ = some (.slice ao' m' cap') := by simp [go_sem]
      have l4 : w.heap.size + 2 < w4.heap.size := Nat.lt_of_lt_of_le lw1 K4.size
      have LF : Hid (∀ k, F k → k < w.heap.size) := HW.out.lt
      have nF6 : ¬ F (w.heap.size + 2) := fun t => by have := LF.out _ t; omega
      have nF4 : ¬ F w4.heap.size := fun t => by have := LF.out _ t; omega
      have EP := hid_of (fun w5 F' u0 u1 N5 C5 L5 => edit_post (w5 := w5) (F' := F') (n' := nd) (u0 := u0) (u1 := u1) (o := (Obj.cells #[.int .i64 nd, .slice ao' m' cap'] 24)) HE.out HA.out HW.out KG K4 E4 nil4 FR4 N5 C5 L5 (b6 := w.heap.size + 2) (by omega) lw1)
      have l6 : w.heap.size + 2 < (w4.alloc (Obj.cells #[.int .i64 nd, .slice ao' m' cap'] 24)).heap.size := Nat.lt_of_lt_of_le lw1 K4a.size
      clear K4 K4a E4 nil4 FR4 KG HE HA HW HNIL
      have NC := hid_of (addF_calls _ F p nd xs ⟨y0, y1, y2, y3⟩ N4.out _ _ _ hAN)
      clear N4
      go_wp2_with fail
      refine NC.out.mono ?_
      rintro r w5 ⟨rfl, F5, N5, C5, L5⟩
      have t0 := C5.cell s0 nF4
      have t1 := C5.cell s1 nF4
      have b0 := C5.cell f0 nF6
      have b1 := C5.cell f1 nF6
      have b2 := (C5.frozen (o := 0) l6 nF6).trans f2
      have b3 := (C5.frozen (o := 1) l6 nF6).trans f3
      obtain ⟨u1, u2, u3, u4⟩ := box2w b0 b1 (.int .i64 nd) (.slice ao' m' cap')
      have PZ := hid_of (EP.out w5 _ (.int .i64 nd) (.slice ao' m' cap') N5 C5 L5)
      have qa : (ra == ra) = true := by simp
      have qb : (ca == ca) = true := by simp
      clear EP NC N5 C5 L5 s0 s1 f0 f1 f2 f3 g0 g1 q0 q1 q2 q3 q4 q5
      go_wp2_with fail
      exact bodyPost_ret (v := .tuple #[.agg #[.int .i64 nd, .slice ao' m' cap'], .bool true]) (by simp [results, Try.results9, go_sem, u3, u4]) rfl ⟨ao', cap', rfl, PZ.out⟩
    · have k1 : (x0 == 1) = false := by simpa using h1
      by_cases h2 : x0 = 2
      · subst h2
        have hss := HS.out
        simp only [show ¬ (2 : Int) = 0 by decide, show ¬ (2 : Int) = 1 by decide, if_false, if_true] at hss
        obtain ⟨za, ca, hAN⟩ : ∃ za ca, Hid (setOf nd xs x1 ⟨y0, y1, y2, y3⟩ = (za, ca)) := ⟨_, _, hid_of rfl⟩
        rw [hAN.out] at hss
        simp only [Prod.mk.injEq] at hss
        obtain ⟨rfl, rfl, rfl⟩ := hss
        clear HS
        go_enter Try.func9, Try.ntmps9
        go_wp2_with fail
        generalize hW1 : ((w.alloc (Obj.cells #[.int .i64 nd, .slice ao n cap] 24)).alloc (Obj.cells #[.int .i64 2, .int .i64 x1, .int .i64 y0, .int .i64 y1, .int .i64 y2, .int .i64 y3] 38)).alloc (Obj.cells #[.int .i64 0, .slice none 0 0] 24) = W1 at *
        clear hW1
        have lw1 : w.heap.size + 2 < W1.heap.size := lt_cell f0
        refine (setR_calls nd ao n cap xs x1 ⟨y0, y1, y2, y3⟩ W1 (HE.out.kept KG) hlen HNIL.out _ _ hAN).mono ?_
        rintro r w4 ⟨ao', cap', rfl, lz, E4, nil4, FR4, K4⟩
        obtain rfl : n = m' := lz.symm.trans hm.out
        clear lz
        have K4a := K4.alloc (Obj.cells #[.int .i64 nd, .slice ao' n cap'] 24)
        replace g0 := K4a.cell g0
        replace g1 := K4a.cell g1
        replace q0 := K4a.cell q0
        replace q1 := K4a.cell q1
        replace q2 := K4a.cell q2
        replace q3 := K4a.cell q3
        replace q4 := K4a.cell q4
        replace q5 := K4a.cell q5
        replace f2 := (Below.frozen (p := ⟨w.heap.size + 2, 0, none⟩) K4a (lt_cell f0)).trans f2
        replace f3 := (Below.frozen (p := ⟨w.heap.size + 2, 1, none⟩) K4a (lt_cell f1)).trans f3
        replace f0 := K4a.cell f0
        replace f1 := K4a.cell f1
        have N4 := hid_of (HW.out.kept (KG.trans K4a))
        have s0 : (w4.alloc (Obj.cells #[.int .i64 nd, .slice ao' n cap'] 24)).cell? ⟨w4.heap.size, 0, none⟩ = some (.int .i64 nd) := by simp [go_sem]
        have s1 : (w4.alloc (Obj.cells #[.int .i64 nd, .slice ao' n cap'] 24)).cell? ⟨w4.heap.size, 1, none⟩ = some (.slice ao' n cap') := by simp [go_sem]
        have l4 : w.heap.size + 2 < w4.heap.size := Nat.lt_of_lt_of_le lw1 K4.size
        have LF : Hid (∀ k, F k → k < w.heap.size) := HW.out.lt
        have nF6 : ¬ F (w.heap.size + 2) := fun t => by have := LF.out _ t; omega
        have nF4 : ¬ F w4.heap.size := fun t => by have := LF.out _ t; omega
        have EP := hid_of (fun w5 F' u0 u1 N5 C5 L5 => edit_post (w5 := w5) (F' := F') (n' := nd) (u0 := u0) (u1 := u1) (o := (Obj.cells #[.int .i64 nd, .slice ao' n cap'] 24)) HE.out HA.out HW.out KG K4 E4 nil4 FR4 N5 C5 L5 (b6 := w.heap.size + 2) (by omega) lw1)
        have l6 : w.heap.size + 2 < (w4.alloc (Obj.cells #[.int .i64 nd, .slice ao' n cap'] 24)).heap.size := Nat.lt_of_lt_of_le lw1 K4a.size
        clear K4 K4a E4 nil4 FR4 KG HE HA HW HNIL
        go_upto_region 12 with fail
        generalize hW4 : w4.alloc (Obj.cells #[.int .i64 nd, .slice ao' n cap'] 24) = W4 at *
        clear hW4
        have NC := hid_of (fun m => set_calls (W4.drewN m) F p nd xs (N4.out.kept ((Kept.refl _).drewN m)) x1 ⟨y0, y1, y2, y3⟩ _ _ hAN)
        have qb : (ca == ca) = true := by simp
        have nG4 : ¬ (F w4.heap.size ∨ w4.heap.size = w.heap.size + 2) := fun t => by rcases t with t | t; exact nF4 t; omega
        have nG1 : ¬ (F (w.heap.size + 1) ∨ w.heap.size + 1 = w.heap.size + 2) := fun t => by rcases t with t | t; (have := LF.out _ t; omega); omega
        clear N4 hm hAN HR
        refine Ord.region [(0, 1), (1, 0), (2, 0), (3, 0), (4, 1), (5, 0), (6, 1), (7, 2), (8, 0), (9, 2), (10, 0)] (fun w' => Ch (fun k => F k ∨ k = w.heap.size + 2) W4 w') (by kernel_rfl) (by kernel_rfl) (by kernel_rfl) (by kernel_rfl) (fun _ _ d _ _ h => by cases d <;> exact h) ((Ch.refl _ _).drewN _) ?_
        repeat
          refine Ord.step rfl (fun Ko hK => ?_)
          simp only [Ord.body]
          go_simp
          first
            | (refine hK _ _ ?_; clear hK Ko)
            | (refine ⟨_, fun w' hS => (by have c0 := hS.cell q1 nG1; simp only [c0, Result.andThen]; rfl), hK _ _ ?_⟩; clear hK Ko)
            | (refine ⟨_, fun w' hS => (by have c0 := hS.cell q2 nG1; have c1 := hS.cell q3 nG1; have c2 := hS.cell q4 nG1; have c3 := hS.cell q5 nG1; simp only [c0, c1, c2, c3, Result.andThen]; rfl), hK _ _ ?_⟩; clear hK Ko)
            | (refine ⟨_, fun w' hS => (by have c0 := hS.cell s0 nG4; have c1 := hS.cell s1 nG4; simp only [c0, c1, Result.andThen]; rfl), hK _ _ ?_⟩; clear hK Ko)
            | (go_at_call 16; refine (NC.out _).mono ?_; rintro e w5 ⟨rfl, N5, C5⟩; have C5b := ((Ch.refl F W4).drewN _).trans C5; refine ⟨C5b.mono (fun k t => .inl t), hK _ _ ?_⟩; clear hK Ko; have b0 := C5b.cell f0 nF6; have b1 := C5b.cell f1 nF6; have b2 := (C5b.frozen (o := 0) l6 nF6).trans f2; have b3 := (C5b.frozen (o := 1) l6 nF6).trans f3; obtain ⟨u1, u2, u3, u4⟩ := box2w b0 b1 (.int .i64 nd) (.slice ao' n cap'); have PZ := hid_of (EP.out w5 F (.int .i64 nd) (.slice ao' n cap') N5 C5b (fun k t => .inl t)))
            | (refine ⟨((C5b.mono (G := fun k => F k ∨ k = w.heap.size + 2) (fun k t => .inl t)).setCell (F := fun k => F k ∨ k = w.heap.size + 2) (p := ⟨w.heap.size + 2, 0, none⟩) (.inr rfl) _).setCell (F := fun k => F k ∨ k = w.heap.size + 2) (p := ⟨w.heap.size + 2, 1, none⟩) (.inr rfl) _, hK _ _ ?_⟩; clear hK Ko)
        refine Ord.done ?_
        clear EP NC N5 C5 C5b s0 s1 f0 f1 f2 f3 g0 g1 q0 q1 q2 q3 q4 q5
        go_wp2_with fail
        exact bodyPost_ret (v := .tuple #[.agg #[.int .i64 nd, .slice ao' n cap'], .bool true]) (by simp [results, Try.results9, go_sem, u3, u4]) rfl ⟨ao', cap', rfl, PZ.out⟩
      · have k2 : (x0 == 2) = false := by simpa using h2
        by_cases h3 : x0 = 3
        · subst h3
          have hss := HS.out
          simp only [show ¬ (3 : Int) = 0 by decide, show ¬ (3 : Int) = 1 by decide, show ¬ (3 : Int) = 2 by decide, if_false, if_true] at hss
          obtain ⟨za, ca, hAN⟩ : ∃ za ca, Hid (cutOf xs x1 = (za, ca)) := ⟨_, _, hid_of rfl⟩
          rw [hAN.out] at hss
          simp only [Prod.mk.injEq] at hss
          obtain ⟨rfl, rfl, rfl⟩ := hss
          clear HS
          go_enter Try.func9, Try.ntmps9
          go_wp2_with fail
          generalize hW1 : ((w.alloc (Obj.cells #[.int .i64 nd, .slice ao n cap] 24)).alloc (Obj.cells #[.int .i64 3, .int .i64 x1, .int .i64 y0, .int .i64 y1, .int .i64 y2, .int .i64 y3] 38)).alloc (Obj.cells #[.int .i64 0, .slice none 0 0] 24) = W1 at *
          clear hW1
          have lw1 : w.heap.size + 2 < W1.heap.size := lt_cell f0
          refine (cutR_calls nd ao n cap xs x1 W1 (HE.out.kept KG) hlen HNIL.out _ _ hAN m' hm).mono ?_
          rintro r w4 ⟨ao', cap', rfl, E4, nil4, FR4, K4⟩
          have K4a := K4.alloc (Obj.cells #[.int .i64 nd, .slice ao' m' cap'] 24)
          replace g0 := K4a.cell g0
          replace g1 := K4a.cell g1
          replace q0 := K4a.cell q0
          replace q1 := K4a.cell q1
          replace q2 := K4a.cell q2
          replace q3 := K4a.cell q3
          replace q4 := K4a.cell q4
          replace q5 := K4a.cell q5
          replace f2 := (Below.frozen (p := ⟨w.heap.size + 2, 0, none⟩) K4a (lt_cell f0)).trans f2
          replace f3 := (Below.frozen (p := ⟨w.heap.size + 2, 1, none⟩) K4a (lt_cell f1)).trans f3
          replace f0 := K4a.cell f0
          replace f1 := K4a.cell f1
          have N4 := hid_of (HW.out.kept (KG.trans K4a))
          have s0 : (w4.alloc (Obj.cells #[.int .i64 nd, .slice ao' m' cap'] 24)).cell? ⟨w4.heap.size, 0, none⟩ = some (.int .i64 nd) := by simp [go_sem]
          have s1 : (w4.alloc (Obj.cells #[.int .i64 nd, .slice ao' m' cap'] 24)).cell? ⟨w4.heap.size, 1, none⟩ = some (.slice ao' m' cap') := by simp [go_sem]
          have l4 : w.heap.size + 2 < w4.heap.size := Nat.lt_of_lt_of_le lw1 K4.size
          have LF : Hid (∀ k, F k → k < w.heap.size) := HW.out.lt
          have nF6 : ¬ F (w.heap.size + 2) := fun t => by have := LF.out _ t; omega
          have nF4 : ¬ F w4.heap.size := fun t => by have := LF.out _ t; omega
          have EP := hid_of (fun w5 F' u0 u1 N5 C5 L5 => edit_post (w5 := w5) (F' := F') (n' := nd) (u0 := u0) (u1 := u1) (o := (Obj.cells #[.int .i64 nd, .slice ao' m' cap'] 24)) HE.out HA.out HW.out KG K4 E4 nil4 FR4 N5 C5 L5 (b6 := w.heap.size + 2) (by omega) lw1)
          have l6 : w.heap.size + 2 < (w4.alloc (Obj.cells #[.int .i64 nd, .slice ao' m' cap'] 24)).heap.size := Nat.lt_of_lt_of_le lw1 K4a.size
          clear K4 K4a E4 nil4 FR4 KG HE HA HW HNIL
          go_upto_region 15 with fail
          generalize hW4 : w4.alloc (Obj.cells #[.int .i64 nd, .slice ao' m' cap'] 24) = W4 at *
          clear hW4
          have NC := hid_of (fun m => cut_calls (W4.drewN m) F p nd xs (N4.out.kept ((Kept.refl _).drewN m)) HR.out.len x1 _ _ hAN)
          have qb : (ca == ca) = true := by simp
          have nG4 : ¬ (F w4.heap.size ∨ w4.heap.size = w.heap.size + 2) := fun t => by rcases t with t | t; exact nF4 t; omega
          have nG1 : ¬ (F (w.heap.size + 1) ∨ w.heap.size + 1 = w.heap.size + 2) := fun t => by rcases t with t | t; (have := LF.out _ t; omega); omega
          clear N4 hm hAN HR
          refine Ord.region [(0, 1), (1, 0), (2, 0), (3, 0), (4, 1), (5, 2), (6, 0), (7, 2), (8, 0)] (fun w' => Ch (fun k => F k ∨ k = w.heap.size + 2) W4 w') (by kernel_rfl) (by kernel_rfl) (by kernel_rfl) (by kernel_rfl) (fun _ _ d _ _ h => by cases d <;> exact h) ((Ch.refl _ _).drewN _) ?_
          repeat
            refine Ord.step rfl (fun Ko hK => ?_)
            simp only [Ord.body]
            go_simp
            first
              | (refine hK _ _ ?_; clear hK Ko)
              | (refine ⟨_, fun w' hS => (by have c0 := hS.cell q1 nG1; simp only [c0, Result.andThen]; rfl), hK _ _ ?_⟩; clear hK Ko)
              | (refine ⟨_, fun w' hS => (by have c0 := hS.cell q2 nG1; have c1 := hS.cell q3 nG1; have c2 := hS.cell q4 nG1; have c3 := hS.cell q5 nG1; simp only [c0, c1, c2, c3, Result.andThen]; rfl), hK _ _ ?_⟩; clear hK Ko)
              | (refine ⟨_, fun w' hS => (by have c0 := hS.cell s0 nG4; have c1 := hS.cell s1 nG4; simp only [c0, c1, Result.andThen]; rfl), hK _ _ ?_⟩; clear hK Ko)
              | (go_at_call 17; refine (NC.out _).mono ?_; rintro e w5 ⟨rfl, N5, C5⟩; have C5b := ((Ch.refl F W4).drewN _).trans C5; refine ⟨C5b.mono (fun k t => .inl t), hK _ _ ?_⟩; clear hK Ko; have b0 := C5b.cell f0 nF6; have b1 := C5b.cell f1 nF6; have b2 := (C5b.frozen (o := 0) l6 nF6).trans f2; have b3 := (C5b.frozen (o := 1) l6 nF6).trans f3; obtain ⟨u1, u2, u3, u4⟩ := box2w b0 b1 (.int .i64 nd) (.slice ao' m' cap'); have PZ := hid_of (EP.out w5 F (.int .i64 nd) (.slice ao' m' cap') N5 C5b (fun k t => .inl t)))
              | (refine ⟨((C5b.mono (G := fun k => F k ∨ k = w.heap.size + 2) (fun k t => .inl t)).setCell (F := fun k => F k ∨ k = w.heap.size + 2) (p := ⟨w.heap.size + 2, 0, none⟩) (.inr rfl) _).setCell (F := fun k => F k ∨ k = w.heap.size + 2) (p := ⟨w.heap.size + 2, 1, none⟩) (.inr rfl) _, hK _ _ ?_⟩; clear hK Ko)
          refine Ord.done ?_
          clear EP NC N5 C5 C5b s0 s1 f0 f1 f2 f3 g0 g1 q0 q1 q2 q3 q4 q5
          go_wp2_with fail
          exact bodyPost_ret (v := .tuple #[.agg #[.int .i64 nd, .slice ao' m' cap'], .bool true]) (by simp [results, Try.results9, go_sem, u3, u4]) rfl ⟨ao', cap', rfl, PZ.out⟩
        · have k3 : (x0 == 3) = false := by simpa using h3
          by_cases h4 : x0 = 4
          · subst h4
            have hss := HS.out
            simp only [show ¬ (4 : Int) = 0 by decide, show ¬ (4 : Int) = 1 by decide, show ¬ (4 : Int) = 2 by decide, show ¬ (4 : Int) = 3 by decide, if_false, if_true] at hss
            have hAN := hid_of hss
            clear hss
            clear HS
            go_enter Try.func9, Try.ntmps9
            go_wp2_with fail
            generalize hW1 : ((w.alloc (Obj.cells #[.int .i64 nd, .slice ao n cap] 24)).alloc (Obj.cells #[.int .i64 4, .int .i64 x1, .int .i64 y0, .int .i64 y1, .int .i64 y2, .int .i64 y3] 38)).alloc (Obj.cells #[.int .i64 0, .slice none 0 0] 24) = W1 at *
            clear hW1
            have lw1 : w.heap.size + 2 < W1.heap.size := lt_cell f0
            refine (cutNodeR_calls nd ao n cap xs x1 W1 (HE.out.kept KG) hlen HR.out.lo HR.out.hi HR.out.small HNIL.out _ _ _ hAN m' hm).mono ?_
            rintro r w4 ⟨ao', cap', rfl, E4, nil4, FR4, K4⟩
            have K4a := K4.alloc (Obj.cells #[.int .i64 n', .slice ao' m' cap'] 24)
            replace g0 := K4a.cell g0
            replace g1 := K4a.cell g1
            replace q0 := K4a.cell q0
            replace q1 := K4a.cell q1
            replace q2 := K4a.cell q2
            replace q3 := K4a.cell q3
            replace q4 := K4a.cell q4
            replace q5 := K4a.cell q5
            replace f2 := (Below.frozen (p := ⟨w.heap.size + 2, 0, none⟩) K4a (lt_cell f0)).trans f2
            replace f3 := (Below.frozen (p := ⟨w.heap.size + 2, 1, none⟩) K4a (lt_cell f1)).trans f3
            replace f0 := K4a.cell f0
            replace f1 := K4a.cell f1
            have N4 := hid_of (HW.out.kept (KG.trans K4a))
            have s0 : (w4.alloc (Obj.cells #[.int .i64 n', .slice ao' m' cap'] 24)).cell? ⟨w4.heap.size, 0, none⟩ = some (.int .i64 n') := by simp [go_sem]
            have s1 : (w4.alloc (Obj.cells #[.int .i64 n', .slice ao' m' cap'] 24)).cell? ⟨w4.heap.size, 1, none⟩ = some (.slice ao' m' cap') := by simp [go_sem]
            have l4 : w.heap.size + 2 < w4.heap.size := Nat.lt_of_lt_of_le lw1 K4.size
            have LF : Hid (∀ k, F k → k < w.heap.size) := HW.out.lt
            have nF6 : ¬ F (w.heap.size + 2) := fun t => by have := LF.out _ t; omega
            have nF4 : ¬ F w4.heap.size := fun t => by have := LF.out _ t; omega
            have EP := hid_of (fun w5 F' u0 u1 N5 C5 L5 => edit_post (w5 := w5) (F' := F') (n' := n') (u0 := u0) (u1 := u1) (o := (Obj.cells #[.int .i64 n', .slice ao' m' cap'] 24)) HE.out HA.out HW.out KG K4 E4 nil4 FR4 N5 C5 L5 (b6 := w.heap.size + 2) (by omega) lw1)
            have l6 : w.heap.size + 2 < (w4.alloc (Obj.cells #[.int .i64 n', .slice ao' m' cap'] 24)).heap.size := Nat.lt_of_lt_of_le lw1 K4a.size
            clear K4 K4a E4 nil4 FR4 KG HE HA HW HNIL
            go_upto_region 18 with fail
            generalize hW4 : w4.alloc (Obj.cells #[.int .i64 n', .slice ao' m' cap'] 24) = W4 at *
            clear hW4
            have NC := hid_of (fun m => cutNode_calls (W4.drewN m) F p nd xs (N4.out.kept ((Kept.refl _).drewN m)) HR.out.len HR.out.lo HR.out.hi HR.out.small x1 _ _ _ hAN)
            have qb : (c == c) = true := by simp
            have nG4 : ¬ (F w4.heap.size ∨ w4.heap.size = w.heap.size + 2) := fun t => by rcases t with t | t; exact nF4 t; omega
            have nG1 : ¬ (F (w.heap.size + 1) ∨ w.heap.size + 1 = w.heap.size + 2) := fun t => by rcases t with t | t; (have := LF.out _ t; omega); omega
            clear N4 hm hAN HR
            refine Ord.region [(0, 1), (1, 0), (2, 0), (3, 0), (4, 1), (5, 2), (6, 0), (7, 2), (8, 0)] (fun w' => Ch (fun k => F k ∨ k = w.heap.size + 2) W4 w') (by kernel_rfl) (by kernel_rfl) (by kernel_rfl) (by kernel_rfl) (fun _ _ d _ _ h => by cases d <;> exact h) ((Ch.refl _ _).drewN _) ?_
            repeat
              refine Ord.step rfl (fun Ko hK => ?_)
              simp only [Ord.body]
              go_simp
              first
                | (refine hK _ _ ?_; clear hK Ko)
                | (refine ⟨_, fun w' hS => (by have c0 := hS.cell q1 nG1; simp only [c0, Result.andThen]; rfl), hK _ _ ?_⟩; clear hK Ko)
                | (refine ⟨_, fun w' hS => (by have c0 := hS.cell q2 nG1; have c1 := hS.cell q3 nG1; have c2 := hS.cell q4 nG1; have c3 := hS.cell q5 nG1; simp only [c0, c1, c2, c3, Result.andThen]; rfl), hK _ _ ?_⟩; clear hK Ko)
                | (refine ⟨_, fun w' hS => (by have c0 := hS.cell s0 nG4; have c1 := hS.cell s1 nG4; simp only [c0, c1, Result.andThen]; rfl), hK _ _ ?_⟩; clear hK Ko)
                | (go_at_call 18; refine (NC.out _).mono ?_; rintro e w5 ⟨rfl, N5, C5⟩; have C5b := ((Ch.refl F W4).drewN _).trans C5; refine ⟨C5b.mono (fun k t => .inl t), hK _ _ ?_⟩; clear hK Ko; have b0 := C5b.cell f0 nF6; have b1 := C5b.cell f1 nF6; have b2 := (C5b.frozen (o := 0) l6 nF6).trans f2; have b3 := (C5b.frozen (o := 1) l6 nF6).trans f3; obtain ⟨u1, u2, u3, u4⟩ := box2w b0 b1 (.int .i64 n') (.slice ao' m' cap'); have PZ := hid_of (EP.out w5 F (.int .i64 n') (.slice ao' m' cap') N5 C5b (fun k t => .inl t)))
                | (refine ⟨((C5b.mono (G := fun k => F k ∨ k = w.heap.size + 2) (fun k t => .inl t)).setCell (F := fun k => F k ∨ k = w.heap.size + 2) (p := ⟨w.heap.size + 2, 0, none⟩) (.inr rfl) _).setCell (F := fun k => F k ∨ k = w.heap.size + 2) (p := ⟨w.heap.size + 2, 1, none⟩) (.inr rfl) _, hK _ _ ?_⟩; clear hK Ko)
            refine Ord.done ?_
            clear EP NC N5 C5 C5b s0 s1 f0 f1 f2 f3 g0 g1 q0 q1 q2 q3 q4 q5
            go_wp2_with fail
            exact bodyPost_ret (v := .tuple #[.agg #[.int .i64 n', .slice ao' m' cap'], .bool true]) (by simp [results, Try.results9, go_sem, u3, u4]) rfl ⟨ao', cap', rfl, PZ.out⟩
          · have k4 : (x0 == 4) = false := by simpa using h4
            have hss := HS.out
            rw [if_neg h0, if_neg h1, if_neg h2, if_neg h3, if_neg h4] at hss
            simp only [Prod.mk.injEq] at hss
            obtain ⟨rfl, rfl, rfl⟩ := hss
            obtain rfl : n = m' := HL.out.trans hm.out
            clear HS
            go_enter Try.func9, Try.ntmps9
            go_wp2_with fail
            generalize hW1 : ((w.alloc (Obj.cells #[.int .i64 nd, .slice ao n cap] 24)).alloc (Obj.cells #[.int .i64 x0, .int .i64 x1, .int .i64 y0, .int .i64 y1, .int .i64 y2, .int .i64 y3] 38)).alloc (Obj.cells #[.int .i64 0, .slice none 0 0] 24) = W1 at *
            clear hW1
            have lw1 : w.heap.size + 2 < W1.heap.size := lt_cell f0
            have AC := hid_of (fun m => asks_calls (W1.drewN m) 0 p nd xs (HW.out.kept (KG.drewN m)).at ao n cap (HE.out.kept (KG.drewN m)) hlen ⟨x0, x1, ⟨y0, y1, y2, y3⟩⟩)
            have EP := hid_of (fun w5 u0 u1 K5 => edit_same (w5 := w5) (u0 := u0) (u1 := u1) HE.out HNIL.out HA.out HW.out K5 (b6 := w.heap.size + 2) (by omega))
            have nG0 : ¬ (w.heap.size = w.heap.size + 2) := by omega
            have nG1 : ¬ (w.heap.size + 1 = w.heap.size + 2) := by omega
            clear HE HA HW HNIL HR hm
            refine Ord.region [(0, 1), (1, 0), (2, 1), (3, 1), (4, 2), (5, 2), (6, 0)] (fun w' => Ch (fun k => k = w.heap.size + 2) W1 w') (by kernel_rfl) (by kernel_rfl) (by kernel_rfl) (by kernel_rfl) (fun _ _ d _ _ h => by cases d <;> exact h) ((Ch.refl _ _).drewN _) ?_
            repeat
              refine Ord.step rfl (fun Ko hK => ?_)
              simp only [Ord.body]
              go_simp
              first
                | (refine hK _ _ ?_; clear hK Ko)
                | (refine ⟨_, fun w' hS => (by have c0 := hS.cell g0 nG0; have c1 := hS.cell g1 nG0; simp only [c0, c1, Result.andThen]; rfl), hK _ _ ?_⟩; clear hK Ko)
                | (refine ⟨_, fun w' hS => (by have c0 := hS.cell q0 nG1; have c1 := hS.cell q1 nG1; have c2 := hS.cell q2 nG1; have c3 := hS.cell q3 nG1; have c4 := hS.cell q4 nG1; have c5 := hS.cell q5 nG1; simp only [c0, c1, c2, c3, c4, c5, Result.andThen]; rfl), hK _ _ ?_⟩; clear hK Ko)
                | (go_at_call 28; refine (AC.out _).mono ?_; rintro e w5 ⟨rfl, K5⟩; have K5b := ((Kept.refl W1).drewN _).trans K5; refine ⟨.of_kept K5b, hK _ _ ?_⟩; clear hK Ko; have b0 := K5b.cell f0; have b1 := K5b.cell f1; have b2 := (Below.frozen (p := ⟨w.heap.size + 2, 0, none⟩) K5b (lt_cell f0)).trans f2; have b3 := (Below.frozen (p := ⟨w.heap.size + 2, 1, none⟩) K5b (lt_cell f1)).trans f3; obtain ⟨u1, u2, u3, u4⟩ := box2w b0 b1 (.int .i64 nd) (.slice ao n cap); have PZ := hid_of (EP.out w5 (.int .i64 nd) (.slice ao n cap) (KG.trans K5b)))
                | (refine ⟨((Ch.of_kept (F := fun k => k = w.heap.size + 2) K5b).setCell (F := fun k => k = w.heap.size + 2) (p := ⟨w.heap.size + 2, 0, none⟩) rfl _).setCell (F := fun k => k = w.heap.size + 2) (p := ⟨w.heap.size + 2, 1, none⟩) rfl _, hK _ _ ?_⟩; clear hK Ko)
            refine Ord.done ?_
            clear EP AC K5 K5b f0 f1 f2 f3 g0 g1 q0 q1 q2 q3 q4 q5
            go_wp2_with fail
            exact bodyPost_ret (v := .tuple #[.agg #[.int .i64 nd, .slice ao n cap], .bool true]) (by simp [results, Try.results9, go_sem, u3, u4]) rfl ⟨ao, cap, rfl, PZ.out⟩
end Go.Proofs.Ythefeijgpgcecaa
