/- The law's step: Join and Find. -/
import Derived.Test.YtipkmnhkmnajoaaUnK
namespace Go.Proofs.Ytipkmnhkmnajoaa
open Go.RowKit
open Un

/-- What a step leaves: the same answers, and both sides again; nothing else has changed. -/
def StepPost (W w : World) (F : Nat → Prop) (p g n : Nat) (ob : Option Nat) (e : Ending) (w' : World) : Prop :=
  ∃ ao m cap, e = .returned (.tuple #[.agg #[.int .i64 (n : Int), .slice ao m cap], .bool true]) ∧ ∃ F' P js, Play W w' F' p g n ao m cap P js ∧ Ch F w w' ∧ (∀ k, F' k → F k ∨ w.heap.size ≤ k) ∧ ∀ k, (Value.slice ao m cap).ownBlock = some k → ob = some k ∨ w.heap.size ≤ k

/-- A block by itself is written. -/
theorem Play.store {W w w' : World} {F : Nat → Prop} {p g n m cap b : Nat} {ao : Option Addr} {P : List (Nat × Nat)} {js : List Jn} (h : Play W w F p g n ao m cap P js) (hF : ¬ F b) (hW : W.heap.size ≤ b) (hd : (Value.slice ao m cap).ownBlock ≠ some b) (C : Ch (fun k => k = b) w w') : Play W w' F p g n ao m cap P js :=
  ⟨h.sets.far C (fun _ hk e => hF (e ▸ hk)), ⟨h.doc.row.far C (fun _ e t => hd (t ▸ e)), h.doc.par, h.doc.good, h.doc.few⟩, h.nil, h.kept.ch C (fun _ e => e ▸ hW), h.new, fun k e => ⟨(h.apart k e).1, Nat.lt_of_lt_of_le (h.apart k e).2 C.size⟩⟩

theorem ch_two {w : World} (b : Nat) (u0 u1 : Value) : Ch (fun k => k = b) w ((w.setCell ⟨b, 0, none⟩ u0).setCell ⟨b, 1, none⟩ u1) :=
  ((Ch.refl (fun k => k = b) w).setCell (F := fun k => k = b) (p := ⟨b, 0, none⟩) rfl u0).setCell (F := fun k => k = b) (p := ⟨b, 1, none⟩) rfl u1

set_option maxRecDepth 100000 in
set_option maxHeartbeats 2000000 in
theorem stepJoin_calls (W w : World) (F : Nat → Prop) (p g n m cap : Nat) (ao : Option Addr) (P : List (Nat × Nat)) (js : List Jn) (h : Play W w F p g n ao m cap P js) (u v : Int) :
    Calls Try.prog 30 #[.pointer (some ⟨p, 0, none⟩), .agg #[.int .i64 (n : Int), .slice ao m cap], .agg #[.int .i64 0, .int .i64 u, .int .i64 v]] w (StepPost W w F p g n (Value.slice ao m cap).ownBlock) := by
  have KG : Kept w (((w.alloc (Obj.cells #[.int .i64 (n : Int), .slice ao m cap] 66)).alloc (Obj.cells #[.int .i64 0, .int .i64 u, .int .i64 v] 68)).alloc (Obj.cells #[.int .i64 0, .slice none 0 0] 66)) := (((Kept.refl w).alloc _).alloc _).alloc _
  have HA := h.keptBy KG
  have lF := h.sets.base.lt
  have C := hid_of (joinRZ_calls _ n m cap ao P js HA.doc h.nil u v)
  have HAH := hid_of HA
  have HF := hid_of lF
  have HAP := hid_of (fun k e => (h.apart k e).2)
  have hsz : (((w.alloc (Obj.cells #[.int .i64 (n : Int), .slice ao m cap] 66)).alloc (Obj.cells #[.int .i64 0, .int .i64 u, .int .i64 v] 68)).alloc (Obj.cells #[.int .i64 0, .slice none 0 0] 66)).heap.size = w.heap.size + 3 := by simp
  have hW := h.kept.size
  have y1 : (((w.alloc (Obj.cells #[.int .i64 (n : Int), .slice ao m cap] 66)).alloc (Obj.cells #[.int .i64 0, .int .i64 u, .int .i64 v] 68)).alloc (Obj.cells #[.int .i64 0, .slice none 0 0] 66)).cell? ⟨w.heap.size + 1, 1, none⟩ = some (.int .i64 u) := by simp [go_sem]
  have y2 : (((w.alloc (Obj.cells #[.int .i64 (n : Int), .slice ao m cap] 66)).alloc (Obj.cells #[.int .i64 0, .int .i64 u, .int .i64 v] 68)).alloc (Obj.cells #[.int .i64 0, .slice none 0 0] 66)).cell? ⟨w.heap.size + 1, 2, none⟩ = some (.int .i64 v) := by simp [go_sem]
  have r0 : (((w.alloc (Obj.cells #[.int .i64 (n : Int), .slice ao m cap] 66)).alloc (Obj.cells #[.int .i64 0, .int .i64 u, .int .i64 v] 68)).alloc (Obj.cells #[.int .i64 0, .slice none 0 0] 66)).cell? ⟨w.heap.size + 2, 0, none⟩ = some (.int .i64 0) := by simp [go_sem]
  have r1 : (((w.alloc (Obj.cells #[.int .i64 (n : Int), .slice ao m cap] 66)).alloc (Obj.cells #[.int .i64 0, .int .i64 u, .int .i64 v] 68)).alloc (Obj.cells #[.int .i64 0, .slice none 0 0] 66)).cell? ⟨w.heap.size + 2, 1, none⟩ = some (.slice none 0 0) := by simp [go_sem]
  have r2 : (((w.alloc (Obj.cells #[.int .i64 (n : Int), .slice ao m cap] 66)).alloc (Obj.cells #[.int .i64 0, .int .i64 u, .int .i64 v] 68)).alloc (Obj.cells #[.int .i64 0, .slice none 0 0] 66)).frozen? ⟨w.heap.size + 2, 0, none⟩ = false := by simp [go_sem]
  have r3 : (((w.alloc (Obj.cells #[.int .i64 (n : Int), .slice ao m cap] 66)).alloc (Obj.cells #[.int .i64 0, .int .i64 u, .int .i64 v] 68)).alloc (Obj.cells #[.int .i64 0, .slice none 0 0] 66)).frozen? ⟨w.heap.size + 2, 1, none⟩ = false := by simp [go_sem]
  have KGH := hid_of KG
  clear h HA KG lF
  go_enter Try.func30, Try.ntmps30
  go_wp2_with fail
  generalize hW1 : ((w.alloc (Obj.cells #[.int .i64 (n : Int), .slice ao m cap] 66)).alloc (Obj.cells #[.int .i64 0, .int .i64 u, .int .i64 v] 68)).alloc (Obj.cells #[.int .i64 0, .slice none 0 0] 66) = W1 at C HAH KGH hsz y1 y2 r0 r1 r2 r3 ⊢
  clear hW1
  refine C.out.mono ?_
  rintro e w2 ⟨⟨ao2, m2, cap2, rfl, ⟨P2, D2⟩, hn2, L2⟩, K2⟩
  have D2H := hid_of D2
  have L2H := hid_of L2
  have N2H := hid_of hn2
  have H2 := hid_of (HAH.out.keptBy K2)
  have K2H := hid_of K2
  have hs2 := K2.size
  have KA := K2.alloc (Obj.cells #[.int .i64 (n : Int), .slice ao2 m2 cap2] 66)
  have z1 := KA.cell y1
  have z2 := KA.cell y2
  clear D2 L2 hn2 K2 C HAH
  go_wp2_with fail
  have HB := hid_of (H2.out.keptBy ((Kept.refl _).alloc (Obj.cells #[.int .i64 (n : Int), .slice ao2 m2 cap2] 66)))
  have a0 : (w2.alloc (Obj.cells #[.int .i64 (n : Int), .slice ao2 m2 cap2] 66)).cell? ⟨w2.heap.size, 0, none⟩ = some (.int .i64 (n : Int)) := by simp [go_sem]
  have a1 : (w2.alloc (Obj.cells #[.int .i64 (n : Int), .slice ao2 m2 cap2] 66)).cell? ⟨w2.heap.size, 1, none⟩ = some (.slice ao2 m2 cap2) := by simp [go_sem]
  have s0 := KA.cell r0
  have s1 := KA.cell r1
  have s2 := (Below.frozen (p := ⟨w.heap.size + 2, 0, none⟩) KA (World.block_lt_of_cell? _ _ r0)).trans r2
  have s3 := (Below.frozen (p := ⟨w.heap.size + 2, 1, none⟩) KA (World.block_lt_of_cell? _ _ r1)).trans r3
  have KW3 := hid_of ((KGH.out.trans K2H.out).alloc (Obj.cells #[.int .i64 (n : Int), .slice ao2 m2 cap2] 66))
  have D3 := hid_of (D2H.out.kept ((Kept.refl _).alloc (Obj.cells #[.int .i64 (n : Int), .slice ao2 m2 cap2] 66)))
  have hsz3 : (w2.alloc (Obj.cells #[.int .i64 (n : Int), .slice ao2 m2 cap2] 66)).heap.size = w2.heap.size + 1 := by simp
  clear KA y1 y2 r0 r1 r2 r3 D2H
  generalize hW3 : w2.alloc (Obj.cells #[.int .i64 (n : Int), .slice ao2 m2 cap2] 66) = W3 at HB KW3 a0 a1 s0 s1 s2 s3 z1 z2 D3 hsz3 ⊢
  clear hW3
  refine (joinZ_calls W3 F p g n js HB.out.sets u v).mono ?_
  rintro e w4 ⟨rfl, F4, S4, C4, E4⟩
  have AP : ∀ k, (Value.slice ao2 m2 cap2).ownBlock = some k → ¬ F k ∧ k < W3.heap.size := fun k e => by
    rcases L2H.out k e with t | ⟨t, t2⟩
    · have h1 := (HB.out.apart k t).1
      have h2 := HAP.out k t
      exact ⟨h1, by omega⟩
    · refine ⟨fun hk => ?_, by omega⟩
      have := HF.out k hk
      omega
  have PL := Play.turn (W := W) S4 D3.out N2H.out HB.out.kept HB.out.new AP C4 E4
  have nF : ∀ b, b < W3.heap.size → w.heap.size ≤ b → ¬ F b := fun b _ h2 hk => by have := HF.out b hk; omega
  have b0 := C4.cell a0 (nF w2.heap.size (by omega) (by omega))
  have b1 := C4.cell a1 (nF w2.heap.size (by omega) (by omega))
  have t0 := C4.cell s0 (nF (w.heap.size + 2) (by omega) (by omega))
  have t1 := C4.cell s1 (nF (w.heap.size + 2) (by omega) (by omega))
  have t2 := (C4.frozen (b := w.heap.size + 2) (o := 0) (by omega) (nF (w.heap.size + 2) (by omega) (by omega))).trans s2
  have t3 := (C4.frozen (b := w.heap.size + 2) (o := 1) (by omega) (nF (w.heap.size + 2) (by omega) (by omega))).trans s3
  have nF4 : ¬ F4 (w.heap.size + 2) := fun hk => by
    rcases E4 _ hk with t | t
    · exact nF _ (by omega) (by omega) t
    · omega
  have ND : (Value.slice ao2 m2 cap2).ownBlock ≠ some (w.heap.size + 2) := fun e => by
    rcases L2H.out _ e with t | ⟨t, _⟩
    · have := HAP.out _ t; omega
    · omega
  have FIN := hid_of (PL.store (b := w.heap.size + 2) nF4 (by omega) ND (ch_two (w := w4) (w.heap.size + 2) (.int .i64 (n : Int)) (.slice ao2 m2 cap2)))
  have CHH := hid_of (((Ch.of_kept KW3.out).trans C4).trans' (ch_two (w := w4) (w.heap.size + 2) (.int .i64 (n : Int)) (.slice ao2 m2 cap2)) (fun i e => .inr (by omega)))
  have E4H : Hid (∀ k, F4 k → F k ∨ w.heap.size ≤ k) := fun k hk => by rcases E4 k hk with t | t; exact .inl t; exact .inr (by omega)
  have L4H : Hid (∀ k, (Value.slice ao2 m2 cap2).ownBlock = some k → (Value.slice ao m cap).ownBlock = some k ∨ w.heap.size ≤ k) := fun k e => by rcases L2H.out k e with t | ⟨t, _⟩; exact .inl t; exact .inr (by omega)
  obtain ⟨x1, x2, x3, x4⟩ := box2w t0 t1 (.int .i64 (n : Int)) (.slice ao2 m2 cap2)
  have q1 : (freshOf n js u v == freshOf n js u v) = true := by simp
  have q2 : (codeOf n u v == codeOf n u v) = true := by simp
  generalize freshOf n js u v = fr at q1 ⊢
  generalize codeOf n u v = cd at q2 ⊢
  clear S4 C4 E4 AP PL nF nF4 ND D3 HB H2 K2H L2H N2H HF HAP z1 z2 a0 a1 s0 s1 s2 s3
  go_wp2_with fail
  refine bodyPost_ret (v := .tuple #[.agg #[.int .i64 (n : Int), .slice ao2 m2 cap2], .bool true]) (by simp [results, Try.results30, go_sem, x3, x4]) rfl ⟨ao2, m2, cap2, rfl, F4, P2, _, FIN.out, CHH.out, E4H.out, L4H.out⟩

set_option maxRecDepth 100000 in
set_option maxHeartbeats 2000000 in
theorem stepFind_calls (W w : World) (F : Nat → Prop) (p g n m cap : Nat) (ao : Option Addr) (P : List (Nat × Nat)) (js : List Jn) (h : Play W w F p g n ao m cap P js) (u v : Int) :
    Calls Try.prog 30 #[.pointer (some ⟨p, 0, none⟩), .agg #[.int .i64 (n : Int), .slice ao m cap], .agg #[.int .i64 1, .int .i64 u, .int .i64 v]] w (StepPost W w F p g n (Value.slice ao m cap).ownBlock) := by
  have KG : Kept w (((w.alloc (Obj.cells #[.int .i64 (n : Int), .slice ao m cap] 66)).alloc (Obj.cells #[.int .i64 1, .int .i64 u, .int .i64 v] 68)).alloc (Obj.cells #[.int .i64 0, .slice none 0 0] 66)) := (((Kept.refl w).alloc _).alloc _).alloc _
  have HA := h.keptBy KG
  have HAH := hid_of HA
  have HF := hid_of h.sets.base.lt
  have HAP := hid_of (fun k e => (h.apart k e).2)
  have hsz : (((w.alloc (Obj.cells #[.int .i64 (n : Int), .slice ao m cap] 66)).alloc (Obj.cells #[.int .i64 1, .int .i64 u, .int .i64 v] 68)).alloc (Obj.cells #[.int .i64 0, .slice none 0 0] 66)).heap.size = w.heap.size + 3 := by simp
  have hW := h.kept.size
  have d0 : (((w.alloc (Obj.cells #[.int .i64 (n : Int), .slice ao m cap] 66)).alloc (Obj.cells #[.int .i64 1, .int .i64 u, .int .i64 v] 68)).alloc (Obj.cells #[.int .i64 0, .slice none 0 0] 66)).cell? ⟨w.heap.size, 0, none⟩ = some (.int .i64 (n : Int)) := by simp [go_sem]
  have d1 : (((w.alloc (Obj.cells #[.int .i64 (n : Int), .slice ao m cap] 66)).alloc (Obj.cells #[.int .i64 1, .int .i64 u, .int .i64 v] 68)).alloc (Obj.cells #[.int .i64 0, .slice none 0 0] 66)).cell? ⟨w.heap.size, 1, none⟩ = some (.slice ao m cap) := by simp [go_sem]
  have y1 : (((w.alloc (Obj.cells #[.int .i64 (n : Int), .slice ao m cap] 66)).alloc (Obj.cells #[.int .i64 1, .int .i64 u, .int .i64 v] 68)).alloc (Obj.cells #[.int .i64 0, .slice none 0 0] 66)).cell? ⟨w.heap.size + 1, 1, none⟩ = some (.int .i64 u) := by simp [go_sem]
  have r0 : (((w.alloc (Obj.cells #[.int .i64 (n : Int), .slice ao m cap] 66)).alloc (Obj.cells #[.int .i64 1, .int .i64 u, .int .i64 v] 68)).alloc (Obj.cells #[.int .i64 0, .slice none 0 0] 66)).cell? ⟨w.heap.size + 2, 0, none⟩ = some (.int .i64 0) := by simp [go_sem]
  have r1 : (((w.alloc (Obj.cells #[.int .i64 (n : Int), .slice ao m cap] 66)).alloc (Obj.cells #[.int .i64 1, .int .i64 u, .int .i64 v] 68)).alloc (Obj.cells #[.int .i64 0, .slice none 0 0] 66)).cell? ⟨w.heap.size + 2, 1, none⟩ = some (.slice none 0 0) := by simp [go_sem]
  have r2 : (((w.alloc (Obj.cells #[.int .i64 (n : Int), .slice ao m cap] 66)).alloc (Obj.cells #[.int .i64 1, .int .i64 u, .int .i64 v] 68)).alloc (Obj.cells #[.int .i64 0, .slice none 0 0] 66)).frozen? ⟨w.heap.size + 2, 0, none⟩ = false := by simp [go_sem]
  have r3 : (((w.alloc (Obj.cells #[.int .i64 (n : Int), .slice ao m cap] 66)).alloc (Obj.cells #[.int .i64 1, .int .i64 u, .int .i64 v] 68)).alloc (Obj.cells #[.int .i64 0, .slice none 0 0] 66)).frozen? ⟨w.heap.size + 2, 1, none⟩ = false := by simp [go_sem]
  have EX : Hid (∃ x c, (∀ W', Play W W' F p g n ao m cap P js → Calls Try.prog 57 #[.agg #[.int .i64 (n : Int), .slice ao m cap], .int .i64 u] W' fun e w' => e = .returned (.tuple #[.int .i64 x, .int .i64 c]) ∧ Kept W' w') ∧
      ∀ W', Play W W' F p g n ao m cap P js → Calls Try.prog 55 #[.pointer (some ⟨p, 0, none⟩), .int .i64 u] W' fun e w' => e = .returned (.tuple #[.int .i64 x, .int .i64 c]) ∧ Kept W' w') := by
    by_cases c : u < 0 ∨ (n : Int) ≤ u
    · exact ⟨0, 30, fun W' _ => findRBad_calls W' n m cap ao u c, fun W' k => (findBad_calls W' F p g n js k.sets u c).mono (by rintro e w' ⟨rfl, rfl⟩; exact ⟨rfl, Kept.refl _⟩)⟩
    · obtain ⟨x, rfl⟩ : ∃ x : Nat, u = (x : Int) := ⟨u.toNat, by omega⟩
      exact ⟨(nm js x : Int), 0, fun W' k => findR_calls W' n m cap ao P js k.doc x (by omega), fun W' k => find_calls W' F p g n js k.sets x (by omega)⟩
  obtain ⟨x, c, C1, C2⟩ := EX.out
  have C1H := hid_of C1
  have C2H := hid_of C2
  have KGH := hid_of KG
  clear h HA KG EX C1 C2
  go_enter Try.func30, Try.ntmps30
  go_wp2_with fail
  generalize hW1 : ((w.alloc (Obj.cells #[.int .i64 (n : Int), .slice ao m cap] 66)).alloc (Obj.cells #[.int .i64 1, .int .i64 u, .int .i64 v] 68)).alloc (Obj.cells #[.int .i64 0, .slice none 0 0] 66) = W1 at HAH KGH hsz d0 d1 y1 r0 r1 r2 r3 ⊢
  clear hW1
  refine (C1H.out _ HAH.out).mono ?_
  rintro e w2 ⟨rfl, K2⟩
  have H2 := hid_of (HAH.out.keptBy K2)
  have z1 := K2.cell y1
  have K2H := hid_of K2
  clear K2 C1H HAH
  go_wp2_with fail
  refine (C2H.out _ H2.out).mono ?_
  rintro e w3 ⟨rfl, K3⟩
  have H3 := H2.out.keptBy K3
  have K13 := K2H.out.trans K3
  have e0 := K13.cell d0
  have e1 := K13.cell d1
  have s0 := K13.cell r0
  have s1 := K13.cell r1
  have s2 := (Below.frozen (p := ⟨w.heap.size + 2, 0, none⟩) K13 (World.block_lt_of_cell? _ _ r0)).trans r2
  have s3 := (Below.frozen (p := ⟨w.heap.size + 2, 1, none⟩) K13 (World.block_lt_of_cell? _ _ r1)).trans r3
  have FIN := hid_of (H3.store (b := w.heap.size + 2) (fun hk => by have := HF.out _ hk; omega) (by omega) (fun e => by have := HAP.out _ e; omega) (ch_two (w := w3) (w.heap.size + 2) (.int .i64 (n : Int)) (.slice ao m cap)))
  have CHH := hid_of ((Ch.of_kept (F := F) (KGH.out.trans K13)).trans' (ch_two (w := w3) (w.heap.size + 2) (.int .i64 (n : Int)) (.slice ao m cap)) (fun i e => .inr (by omega)))
  obtain ⟨x1, x2, x3, x4⟩ := box2w s0 s1 (.int .i64 (n : Int)) (.slice ao m cap)
  have q1 : (x == x) = true := by simp
  have q2 : (c == c) = true := by simp
  clear K3 H3 K13 K2H H2 C2H HF HAP d0 d1 y1 z1 r0 r1 r2 r3
  go_wp2_with fail
  refine bodyPost_ret (v := .tuple #[.agg #[.int .i64 (n : Int), .slice ao m cap], .bool true]) (by simp [results, Try.results30, go_sem, x3, x4]) rfl ⟨ao, m, cap, rfl, F, P, _, FIN.out, CHH.out, fun k hk => .inl hk, fun k e => .inl e⟩

set_option maxRecDepth 100000 in
set_option maxHeartbeats 2000000 in
theorem stepElse_calls (W w : World) (F : Nat → Prop) (p g n m cap : Nat) (ao : Option Addr) (P : List (Nat × Nat)) (js : List Jn) (h : Play W w F p g n ao m cap P js) (u v : Int) (kd : Int) (hk : kd < 0 ∨ 3 < kd) :
    Calls Try.prog 30 #[.pointer (some ⟨p, 0, none⟩), .agg #[.int .i64 (n : Int), .slice ao m cap], .agg #[.int .i64 kd, .int .i64 u, .int .i64 v]] w (StepPost W w F p g n (Value.slice ao m cap).ownBlock) := by
  have q0 : (kd == 0) = false := by rw [beq_eq_false_iff_ne]; omega
  have q1 : (kd == 1) = false := by rw [beq_eq_false_iff_ne]; omega
  have q2 : (kd == 2) = false := by rw [beq_eq_false_iff_ne]; omega
  have q3 : (kd == 3) = false := by rw [beq_eq_false_iff_ne]; omega
  have HH := hid_of h
  clear h hk
  go_enter Try.func30, Try.ntmps30
  go_wp2_with fail
  refine bodyPost_ret (v := .tuple #[.agg #[.int .i64 (n : Int), .slice ao m cap], .bool true]) (by simp [results, Try.results30, go_sem]) rfl ⟨ao, m, cap, rfl, F, P, _, HH.out.keptBy ((((Kept.refl w).alloc _).alloc _).alloc _), Ch.of_kept ((((Kept.refl w).alloc _).alloc _).alloc _), fun k hk => .inl hk, fun k e => .inl e⟩
end Go.Proofs.Ytipkmnhkmnajoaa
