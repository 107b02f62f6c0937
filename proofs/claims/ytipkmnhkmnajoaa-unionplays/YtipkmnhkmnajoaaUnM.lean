/- The law's step: Members and Undo. -/
import Derived.Test.YtipkmnhkmnajoaaUnL
namespace Go.Proofs.Ytipkmnhkmnajoaa
open Go.RowKit
open Un

set_option maxRecDepth 100000 in
set_option maxHeartbeats 2000000 in
theorem stepMembers_calls (W w : World) (F : Nat → Prop) (p g n m cap : Nat) (ao : Option Addr) (P : List (Nat × Nat)) (js : List Jn) (h : Play W w F p g n ao m cap P js) (u v : Int) :
    Calls Try.prog 30 #[.pointer (some ⟨p, 0, none⟩), .agg #[.int .i64 (n : Int), .slice ao m cap], .agg #[.int .i64 3, .int .i64 u, .int .i64 v]] w (StepPost W w F p g n (Value.slice ao m cap).ownBlock) := by
  have KG : Kept w (((w.alloc (Obj.cells #[.int .i64 (n : Int), .slice ao m cap] 66)).alloc (Obj.cells #[.int .i64 3, .int .i64 u, .int .i64 v] 68)).alloc (Obj.cells #[.int .i64 0, .slice none 0 0] 66)) := (((Kept.refl w).alloc _).alloc _).alloc _
  have HA := h.keptBy KG
  have HAH := hid_of HA
  have HF := hid_of h.sets.base.lt
  have HAP := hid_of (fun k e => (h.apart k e).2)
  have hsz : (((w.alloc (Obj.cells #[.int .i64 (n : Int), .slice ao m cap] 66)).alloc (Obj.cells #[.int .i64 3, .int .i64 u, .int .i64 v] 68)).alloc (Obj.cells #[.int .i64 0, .slice none 0 0] 66)).heap.size = w.heap.size + 3 := by simp
  have hW := h.kept.size
  have d0 : (((w.alloc (Obj.cells #[.int .i64 (n : Int), .slice ao m cap] 66)).alloc (Obj.cells #[.int .i64 3, .int .i64 u, .int .i64 v] 68)).alloc (Obj.cells #[.int .i64 0, .slice none 0 0] 66)).cell? ⟨w.heap.size, 0, none⟩ = some (.int .i64 (n : Int)) := by simp [go_sem]
  have d1 : (((w.alloc (Obj.cells #[.int .i64 (n : Int), .slice ao m cap] 66)).alloc (Obj.cells #[.int .i64 3, .int .i64 u, .int .i64 v] 68)).alloc (Obj.cells #[.int .i64 0, .slice none 0 0] 66)).cell? ⟨w.heap.size, 1, none⟩ = some (.slice ao m cap) := by simp [go_sem]
  have y1 : (((w.alloc (Obj.cells #[.int .i64 (n : Int), .slice ao m cap] 66)).alloc (Obj.cells #[.int .i64 3, .int .i64 u, .int .i64 v] 68)).alloc (Obj.cells #[.int .i64 0, .slice none 0 0] 66)).cell? ⟨w.heap.size + 1, 1, none⟩ = some (.int .i64 u) := by simp [go_sem]
  have r0 : (((w.alloc (Obj.cells #[.int .i64 (n : Int), .slice ao m cap] 66)).alloc (Obj.cells #[.int .i64 3, .int .i64 u, .int .i64 v] 68)).alloc (Obj.cells #[.int .i64 0, .slice none 0 0] 66)).cell? ⟨w.heap.size + 2, 0, none⟩ = some (.int .i64 0) := by simp [go_sem]
  have r1 : (((w.alloc (Obj.cells #[.int .i64 (n : Int), .slice ao m cap] 66)).alloc (Obj.cells #[.int .i64 3, .int .i64 u, .int .i64 v] 68)).alloc (Obj.cells #[.int .i64 0, .slice none 0 0] 66)).cell? ⟨w.heap.size + 2, 1, none⟩ = some (.slice none 0 0) := by simp [go_sem]
  have r2 : (((w.alloc (Obj.cells #[.int .i64 (n : Int), .slice ao m cap] 66)).alloc (Obj.cells #[.int .i64 3, .int .i64 u, .int .i64 v] 68)).alloc (Obj.cells #[.int .i64 0, .slice none 0 0] 66)).frozen? ⟨w.heap.size + 2, 0, none⟩ = false := by simp [go_sem]
  have r3 : (((w.alloc (Obj.cells #[.int .i64 (n : Int), .slice ao m cap] 66)).alloc (Obj.cells #[.int .i64 3, .int .i64 u, .int .i64 v] 68)).alloc (Obj.cells #[.int .i64 0, .slice none 0 0] 66)).frozen? ⟨w.heap.size + 2, 1, none⟩ = false := by simp [go_sem]
  have EX : Hid (∃ zs c, (∀ W', Play W W' F p g n ao m cap P js → Calls Try.prog 59 #[.agg #[.int .i64 (n : Int), .slice ao m cap], .int .i64 u] W' fun e w' => (∃ ao' cap', e = .returned (.tuple #[.slice ao' zs.length cap', .int .i64 c]) ∧ IRow w' ao' zs.length cap' zs) ∧ Kept W' w') ∧
      ∀ W', Play W W' F p g n ao m cap P js → Calls Try.prog 37 #[.pointer (some ⟨p, 0, none⟩), .int .i64 u] W' fun e w' => (∃ ao' cap', e = .returned (.tuple #[.slice ao' zs.length cap', .int .i64 c]) ∧ IRow w' ao' zs.length cap' zs) ∧ Kept W' w') := by
    have nl : ∀ W' : World, IRow W' none 0 0 [] := fun W' => ⟨rfl, by omega, by unfold maxLen; omega, fun t => by omega⟩
    by_cases c : u < 0 ∨ (n : Int) ≤ u
    · exact ⟨[], 30, fun W' _ => (membersRBad_calls W' n m cap ao u c).mono (by rintro e w' ⟨rfl, K⟩; exact ⟨⟨_, _, rfl, nl _⟩, K⟩), fun W' k => (membersBad_calls W' F p g n js k.sets u c).mono (by rintro e w' ⟨rfl, rfl⟩; exact ⟨⟨_, _, rfl, nl _⟩, Kept.refl _⟩)⟩
    · obtain ⟨x, rfl⟩ : ∃ x : Nat, u = (x : Int) := ⟨u.toNat, by omega⟩
      exact ⟨memTo js (rt js x) n, 0, fun W' k => membersR_calls W' n m cap ao P js k.doc x (by omega) _ (hid_of rfl), fun W' k => members_calls W' F p g n js k.sets x (by omega) _ (hid_of rfl)⟩
  obtain ⟨zs, c, C1, C2⟩ := EX.out
  have C1H := hid_of C1
  have C2H := hid_of C2
  have KGH := hid_of KG
  clear h HA KG EX C1 C2
  go_enter Try.func30, Try.ntmps30
  go_wp2_with fail
  generalize hW1 : ((w.alloc (Obj.cells #[.int .i64 (n : Int), .slice ao m cap] 66)).alloc (Obj.cells #[.int .i64 3, .int .i64 u, .int .i64 v] 68)).alloc (Obj.cells #[.int .i64 0, .slice none 0 0] 66) = W1 at HAH KGH hsz d0 d1 y1 r0 r1 r2 r3 ⊢
  clear hW1
  refine (C1H.out _ HAH.out).mono ?_
  rintro e w2 ⟨⟨ao2, cap2, rfl, J2⟩, K2⟩
  have H2 := hid_of (HAH.out.keptBy K2)
  have z1 := K2.cell y1
  have K2H := hid_of K2
  have J2H := hid_of J2
  clear K2 C1H HAH J2
  go_wp2_with fail
  refine (C2H.out _ H2.out).mono ?_
  rintro e w3 ⟨⟨ao3, cap3, rfl, J3⟩, K3⟩
  have H3 := H2.out.keptBy K3
  have K13 := K2H.out.trans K3
  have e0 := K13.cell d0
  have e1 := K13.cell d1
  have s0 := K13.cell r0
  have s1 := K13.cell r1
  have s2 := (Below.frozen (p := ⟨w.heap.size + 2, 0, none⟩) K13 (World.block_lt_of_cell? _ _ r0)).trans r2
  have s3 := (Below.frozen (p := ⟨w.heap.size + 2, 1, none⟩) K13 (World.block_lt_of_cell? _ _ r1)).trans r3
  have K13H := hid_of (KGH.out.trans K13)
  have J2K := hid_of (J2H.out.kept K3)
  have J3H := hid_of J3
  have H3H := hid_of H3
  have hs3 : w.heap.size + 3 ≤ w3.heap.size := by have := K13.size; omega
  have q2 : (c == c) = true := by simp
  have IC := hid_of (fun W' (K : Kept w3 W') => intsU_calls ao3 ao2 zs.length cap3 cap2 zs W' (J3H.out.kept K) (J2K.out.kept K))
  clear K3 H3 K13 K2H H2 C2H d0 d1 y1 z1 r0 r1 r2 r3 J2H J3
  go_wp2_with fail
  have lb : w.heap.size ≠ w.heap.size + 2 := by omega
  refine Ord.region [(0, 1), (1, 0), (2, 0), (3, 2), (4, 0), (5, 0), (6, 0), (7, 0), (8, 0), (9, 2), (10, 0)] (fun w' => Ch (fun k => k = w.heap.size + 2) w3 w') (by kernel_rfl) (by kernel_rfl) (by kernel_rfl) (by kernel_rfl) (fun _ _ d _ _ h => by cases d <;> exact h) ((Ch.refl _ w3).drewN _) ?_
  repeat
    refine Ord.step rfl (fun Ko hK => ?_)
    simp only [Ord.body]
    go_simp
    first
      | (refine hK _ _ ?_; clear hK Ko)
      | (refine ⟨_, fun w' hS => (by have c0 := hS.cell e0 lb; have c1 := hS.cell e1 lb; simp only [c0, c1, Result.andThen]; rfl), hK _ _ ?_⟩; clear hK Ko)
      | (go_at_call 35; refine (IC.out _ ((Kept.refl _).drewN _)).mono ?_; rintro e w9 ⟨rfl, K9⟩; refine ⟨Ch.of_kept (((Kept.refl _).drewN _).trans K9), hK _ _ ?_⟩; clear hK Ko; have K9H := hid_of (((Kept.refl w3).drewN _).trans K9); have t0 := K9H.out.cell s0; have t1 := K9H.out.cell s1; have t2 := (Below.frozen (p := ⟨w.heap.size + 2, 0, none⟩) K9H.out (World.block_lt_of_cell? _ _ s0)).trans s2; have t3 := (Below.frozen (p := ⟨w.heap.size + 2, 1, none⟩) K9H.out (World.block_lt_of_cell? _ _ s1)).trans s3; clear K9)
      | (refine ⟨(Ch.of_kept K9H.out).trans (ch_two _ _ _), hK _ _ ?_⟩; clear hK Ko)
  refine Ord.done ?_
  have FIN := hid_of ((H3H.out.keptBy K9H.out).store (b := w.heap.size + 2) (fun hk => by have := HF.out _ hk; omega) (by omega) (fun e => by have := HAP.out _ e; omega) (ch_two (w := w9) (w.heap.size + 2) (.int .i64 (n : Int)) (.slice ao m cap)))
  have CHH := hid_of ((Ch.of_kept (F := F) (K13H.out.trans K9H.out)).trans' (ch_two (w := w9) (w.heap.size + 2) (.int .i64 (n : Int)) (.slice ao m cap)) (fun i e => .inr (by omega)))
  obtain ⟨x1, x2, x3, x4⟩ := box2w t0 t1 (.int .i64 (n : Int)) (.slice ao m cap)
  clear HF HAP H3H IC J2K J3H
  go_wp2_with fail
  refine bodyPost_ret (v := .tuple #[.agg #[.int .i64 (n : Int), .slice ao m cap], .bool true]) (by simp [results, Try.results30, go_sem, x3, x4]) rfl ⟨ao, m, cap, rfl, F, P, _, FIN.out, CHH.out, fun k hk => .inl hk, fun k e => .inl e⟩

/-- What Undo makes of both sides. -/
theorem undo_both (W : World) (F : Nat → Prop) (p g n m cap : Nat) (ao : Option Addr) (P : List (Nat × Nat)) (js : List Jn) (w : World) (h : Play W w F p g n ao m cap P js) :
    ∃ m' P' js' c, (Value.slice ao m' cap).ownBlock = (Value.slice ao m cap).ownBlock ∧ (ao = none → m' = 0 ∧ cap = 0) ∧ (∀ W', DocAt W' n ao m cap P js → DocAt W' n ao m' cap P' js') ∧
      (∀ W' : World, Calls Try.prog 58 #[.agg #[.int .i64 (n : Int), .slice ao m cap]] W' fun e w' => e = .returned (.tuple #[.agg #[.int .i64 (n : Int), .slice ao m' cap], .int .i64 c]) ∧ Kept W' w') ∧
      ∀ W', SetsAt W' F p g n js → Calls Try.prog 36 #[.pointer (some ⟨p, 0, none⟩)] W' fun e w' => e = .returned (.int .i64 c) ∧ SetsAt w' F p g n js' ∧ Ch F W' w' := by
  have hlen := h.doc.len
  cases js with
  | nil =>
    obtain rfl : m = 0 := hlen
    exact ⟨0, P, [], 4, rfl, h.nil, fun _ d => d, fun W' => undoR0_calls W' n ao cap, fun W' S => (undo0_calls W' F p g n S).mono (by rintro e w' ⟨rfl, rfl⟩; exact ⟨rfl, S, Ch.refl F _⟩)⟩
  | cons j js =>
    obtain rfl : m = js.length + 1 := hlen
    obtain ⟨P', u, v, rfl, hp, -⟩ := h.doc.par
    obtain ⟨b, off, ha, -⟩ := h.doc.row.cell (by omega)
    have hr := h.doc.row.room
    have hm := h.doc.row.most
    unfold maxLen at hm
    refine ⟨js.length, P', js, 0, (by rw [ha]; rfl), (fun t => by rw [ha] at t; cases t), fun W' d => ⟨d.row.init, hp, d.good.1, d.few⟩, fun W' => undoR_calls W' n ao js.length cap hr (by omega) ⟨b, off, ha⟩, fun W' S => undo_calls W' F p g n j js S⟩

set_option maxRecDepth 100000 in
set_option maxHeartbeats 2000000 in
theorem stepUndo_calls (W w : World) (F : Nat → Prop) (p g n m cap : Nat) (ao : Option Addr) (P : List (Nat × Nat)) (js : List Jn) (h : Play W w F p g n ao m cap P js) (u v : Int) :
    Calls Try.prog 30 #[.pointer (some ⟨p, 0, none⟩), .agg #[.int .i64 (n : Int), .slice ao m cap], .agg #[.int .i64 2, .int .i64 u, .int .i64 v]] w (StepPost W w F p g n (Value.slice ao m cap).ownBlock) := by
  have KG : Kept w (((w.alloc (Obj.cells #[.int .i64 (n : Int), .slice ao m cap] 66)).alloc (Obj.cells #[.int .i64 2, .int .i64 u, .int .i64 v] 68)).alloc (Obj.cells #[.int .i64 0, .slice none 0 0] 66)) := (((Kept.refl w).alloc _).alloc _).alloc _
  have HA := h.keptBy KG
  have HAH := hid_of HA
  have HF := hid_of h.sets.base.lt
  have HAP := hid_of (fun k e => (h.apart k e).2)
  have hsz : (((w.alloc (Obj.cells #[.int .i64 (n : Int), .slice ao m cap] 66)).alloc (Obj.cells #[.int .i64 2, .int .i64 u, .int .i64 v] 68)).alloc (Obj.cells #[.int .i64 0, .slice none 0 0] 66)).heap.size = w.heap.size + 3 := by simp
  have hW := h.kept.size
  have d0 : (((w.alloc (Obj.cells #[.int .i64 (n : Int), .slice ao m cap] 66)).alloc (Obj.cells #[.int .i64 2, .int .i64 u, .int .i64 v] 68)).alloc (Obj.cells #[.int .i64 0, .slice none 0 0] 66)).cell? ⟨w.heap.size, 0, none⟩ = some (.int .i64 (n : Int)) := by simp [go_sem]
  have d1 : (((w.alloc (Obj.cells #[.int .i64 (n : Int), .slice ao m cap] 66)).alloc (Obj.cells #[.int .i64 2, .int .i64 u, .int .i64 v] 68)).alloc (Obj.cells #[.int .i64 0, .slice none 0 0] 66)).cell? ⟨w.heap.size, 1, none⟩ = some (.slice ao m cap) := by simp [go_sem]
  have y1 : (((w.alloc (Obj.cells #[.int .i64 (n : Int), .slice ao m cap] 66)).alloc (Obj.cells #[.int .i64 2, .int .i64 u, .int .i64 v] 68)).alloc (Obj.cells #[.int .i64 0, .slice none 0 0] 66)).cell? ⟨w.heap.size + 1, 1, none⟩ = some (.int .i64 u) := by simp [go_sem]
  have r0 : (((w.alloc (Obj.cells #[.int .i64 (n : Int), .slice ao m cap] 66)).alloc (Obj.cells #[.int .i64 2, .int .i64 u, .int .i64 v] 68)).alloc (Obj.cells #[.int .i64 0, .slice none 0 0] 66)).cell? ⟨w.heap.size + 2, 0, none⟩ = some (.int .i64 0) := by simp [go_sem]
  have r1 : (((w.alloc (Obj.cells #[.int .i64 (n : Int), .slice ao m cap] 66)).alloc (Obj.cells #[.int .i64 2, .int .i64 u, .int .i64 v] 68)).alloc (Obj.cells #[.int .i64 0, .slice none 0 0] 66)).cell? ⟨w.heap.size + 2, 1, none⟩ = some (.slice none 0 0) := by simp [go_sem]
  have r2 : (((w.alloc (Obj.cells #[.int .i64 (n : Int), .slice ao m cap] 66)).alloc (Obj.cells #[.int .i64 2, .int .i64 u, .int .i64 v] 68)).alloc (Obj.cells #[.int .i64 0, .slice none 0 0] 66)).frozen? ⟨w.heap.size + 2, 0, none⟩ = false := by simp [go_sem]
  have r3 : (((w.alloc (Obj.cells #[.int .i64 (n : Int), .slice ao m cap] 66)).alloc (Obj.cells #[.int .i64 2, .int .i64 u, .int .i64 v] 68)).alloc (Obj.cells #[.int .i64 0, .slice none 0 0] 66)).frozen? ⟨w.heap.size + 2, 1, none⟩ = false := by simp [go_sem]
  obtain ⟨m', P', js', c, ob, hnil', hdoc, C1, C2⟩ := undo_both W F p g n m cap ao P js w h
  have C1H := hid_of C1
  have C2H := hid_of C2
  have OB := hid_of ob
  have NILH := hid_of hnil'
  have DOCH := hid_of hdoc
  have KGH := hid_of KG
  clear h HA KG C1 C2 ob hnil' hdoc
  go_enter Try.func30, Try.ntmps30
  go_wp2_with fail
  generalize hW1 : ((w.alloc (Obj.cells #[.int .i64 (n : Int), .slice ao m cap] 66)).alloc (Obj.cells #[.int .i64 2, .int .i64 u, .int .i64 v] 68)).alloc (Obj.cells #[.int .i64 0, .slice none 0 0] 66) = W1 at HAH KGH hsz d0 d1 y1 r0 r1 r2 r3 ⊢
  clear hW1
  refine (C1H.out _).mono ?_
  rintro e w2 ⟨rfl, K2⟩
  have H2 := hid_of (HAH.out.keptBy K2)
  have K2H := hid_of K2
  have hs2 := K2.size
  have KA := K2.alloc (Obj.cells #[.int .i64 (n : Int), .slice ao m' cap] 66)
  have s0 := KA.cell r0
  have s1 := KA.cell r1
  have s2 := (Below.frozen (p := ⟨w.heap.size + 2, 0, none⟩) KA (World.block_lt_of_cell? _ _ r0)).trans r2
  have s3 := (Below.frozen (p := ⟨w.heap.size + 2, 1, none⟩) KA (World.block_lt_of_cell? _ _ r1)).trans r3
  have a0 : (w2.alloc (Obj.cells #[.int .i64 (n : Int), .slice ao m' cap] 66)).cell? ⟨w2.heap.size, 0, none⟩ = some (.int .i64 (n : Int)) := by simp [go_sem]
  have a1 : (w2.alloc (Obj.cells #[.int .i64 (n : Int), .slice ao m' cap] 66)).cell? ⟨w2.heap.size, 1, none⟩ = some (.slice ao m' cap) := by simp [go_sem]
  have HB := hid_of (H2.out.keptBy ((Kept.refl _).alloc (Obj.cells #[.int .i64 (n : Int), .slice ao m' cap] 66)))
  have KW3 := hid_of ((KGH.out.trans K2H.out).alloc (Obj.cells #[.int .i64 (n : Int), .slice ao m' cap] 66))
  have hsz3 : (w2.alloc (Obj.cells #[.int .i64 (n : Int), .slice ao m' cap] 66)).heap.size = w2.heap.size + 1 := by simp
  clear K2 C1H HAH KA d0 d1 y1 r0 r1 r2 r3 H2 K2H
  go_wp2_with fail
  generalize hW3 : w2.alloc (Obj.cells #[.int .i64 (n : Int), .slice ao m' cap] 66) = W3 at HB KW3 a0 a1 s0 s1 s2 s3 hsz3 ⊢
  clear hW3
  have nF : ∀ b, w.heap.size ≤ b → ¬ F b := fun b h2 hk => by have := HF.out b hk; omega
  have NFH := hid_of nF
  have n17 : ¬ (F w2.heap.size ∨ w2.heap.size = w.heap.size + 2) := by
    rintro (t | t)
    · exact nF _ (by omega) t
    · omega
  have UC := hid_of (fun k => C2H.out (W3.drewN k) (HB.out.sets.kept ((Kept.refl W3).drewN k)))
  have q2 : (c == c) = true := by simp
  clear C2H nF
  refine Ord.region [(0, 1), (1, 0), (3, 0), (2, 2), (4, 0), (5, 2), (6, 0)] (fun w' => Ch (fun k => F k ∨ k = w.heap.size + 2) W3 w') (by kernel_rfl) (by kernel_rfl) (by kernel_rfl) (by kernel_rfl) (fun _ _ d _ _ h => by cases d <;> exact h) ((Ch.refl _ W3).drewN _) ?_
  repeat
    refine Ord.step rfl (fun Ko hK => ?_)
    simp only [Ord.body]
    go_simp
    first
      | (refine hK _ _ ?_; clear hK Ko)
      | (refine ⟨_, fun w' hS => (by have c0 := hS.cell a0 n17; have c1 := hS.cell a1 n17; simp only [c0, c1, Result.andThen]; rfl), hK _ _ ?_⟩; clear hK Ko)
      | (go_at_call 36; refine (UC.out _).mono ?_; rintro e w9 ⟨rfl, S9, C9⟩; have CD : Ch F W3 w9 := ((Ch.refl F W3).drewN _).trans C9; refine ⟨CD.mono (fun k t => .inl t), hK _ _ ?_⟩; clear hK Ko; have t0 := CD.cell s0 (NFH.out _ (by omega)); have t1 := CD.cell s1 (NFH.out _ (by omega)); have t2 := (CD.frozen (b := w.heap.size + 2) (o := 0) (by omega) (NFH.out _ (by omega))).trans s2; have t3 := (CD.frozen (b := w.heap.size + 2) (o := 1) (by omega) (NFH.out _ (by omega))).trans s3; have CDH := hid_of CD; have S9H := hid_of S9; clear C9 CD S9)
      | (refine ⟨(CDH.out.mono (fun k t => .inl t)).trans ((ch_two _ _ _).mono (fun k t => .inr t)), hK _ _ ?_⟩; clear hK Ko)
  refine Ord.done ?_
  have PL := Play.turn (W := W) (F := F) (F' := F) S9H.out (DOCH.out _ HB.out.doc) NILH.out HB.out.kept HB.out.new (fun k e => by rw [OB.out] at e; exact HB.out.apart k e) CDH.out (fun k t => .inl t)
  have FIN := hid_of (PL.store (b := w.heap.size + 2) (NFH.out _ (by omega)) (by omega) (fun e => by rw [OB.out] at e; have := HAP.out _ e; omega) (ch_two (w := w9) (w.heap.size + 2) (.int .i64 (n : Int)) (.slice ao m' cap)))
  have CHH := hid_of (((Ch.of_kept KW3.out).trans CDH.out).trans' (ch_two (w := w9) (w.heap.size + 2) (.int .i64 (n : Int)) (.slice ao m' cap)) (fun i e => .inr (by omega)))
  obtain ⟨x1, x2, x3, x4⟩ := box2w t0 t1 (.int .i64 (n : Int)) (.slice ao m' cap)
  clear PL HF HAP HB UC CDH S9H
  go_wp2_with fail
  refine bodyPost_ret (v := .tuple #[.agg #[.int .i64 (n : Int), .slice ao m' cap], .bool true]) (by simp [results, Try.results30, go_sem, x3, x4]) rfl ⟨ao, m', cap, rfl, F, P', _, FIN.out, CHH.out, fun k hk => .inl hk, fun k e => .inl (by rw [← OB.out]; exact e)⟩

theorem step_calls (W w : World) (F : Nat → Prop) (p g n m cap : Nat) (ao : Option Addr) (P : List (Nat × Nat)) (js : List Jn) (h : Play W w F p g n ao m cap P js) (k u v : Int) :
    Calls Try.prog 30 #[.pointer (some ⟨p, 0, none⟩), .agg #[.int .i64 (n : Int), .slice ao m cap], .agg #[.int .i64 k, .int .i64 u, .int .i64 v]] w (StepPost W w F p g n (Value.slice ao m cap).ownBlock) := by
  by_cases h0 : k = 0
  · subst h0; exact stepJoin_calls W w F p g n m cap ao P js h u v
  by_cases h1 : k = 1
  · subst h1; exact stepFind_calls W w F p g n m cap ao P js h u v
  by_cases h2 : k = 2
  · subst h2; exact stepUndo_calls W w F p g n m cap ao P js h u v
  by_cases h3 : k = 3
  · subst h3; exact stepMembers_calls W w F p g n m cap ao P js h u v
  exact stepElse_calls W w F p g n m cap ao P js h u v k (by omega)
end Go.Proofs.Ytipkmnhkmnajoaa
