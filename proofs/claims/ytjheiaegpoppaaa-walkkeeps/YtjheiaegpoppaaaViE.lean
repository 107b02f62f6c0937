/- The document's Visit. -/
import Derived.Test.YtjheiaegpoppaaaViD
import Derived.Deep.DeepCutAuto
import Derived.Deep.CutBlock
namespace Go.Proofs.Ytjheiaegpoppaaa
open Go.RowKit

set_option maxRecDepth 100000 in
set_option maxHeartbeats 4000000 in
theorem visitRRBad_calls (nodes : Int) (ao : Option Addr) (m cap : Nat) (es : List Ed) (w : World) (h : ERow w ao m cap es) (c a : Int) (hf : Hid (faultOf nodes es = (c, a))) (hb : c ≠ 0) :
    Calls Try.prog 12 #[.agg #[.int .i64 nodes, .slice ao m cap]] w fun r w' => r = .returned (.tuple #[.slice none 0 0, .slice none 0 0, .int .i64 c]) ∧ Kept w w' := by
  have KG : Kept w (w.alloc (Obj.cells #[.int .i64 nodes, .slice ao m cap] 24)) := (Kept.refl w).alloc _
  have g0 : (w.alloc (Obj.cells #[.int .i64 nodes, .slice ao m cap] 24)).cell? ⟨w.heap.size, 0, none⟩ = some (.int .i64 nodes) := by simp [go_sem]
  have g1 : (w.alloc (Obj.cells #[.int .i64 nodes, .slice ao m cap] 24)).cell? ⟨w.heap.size, 1, none⟩ = some (.slice ao m cap) := by simp [go_sem]
  have HE := hid_of (h.kept KG)
  have hq : (c != 0) = true := by simpa using hb
  clear h hb
  go_enter Try.func12, Try.ntmps12
  go_wp2_with fail
  generalize hW0 : w.alloc (Obj.cells #[.int .i64 nodes, .slice ao m cap] 24) = W0 at KG g0 g1 HE ⊢
  clear hW0
  refine (checkR_calls nodes ao m cap es W0 HE.out c a hf).mono ?_
  rintro v wa ⟨rfl, K1⟩
  have KA := hid_of (KG.trans K1)
  clear K1 KG HE g1 g0
  go_wp2_with fail
  go_ret3
  exact ⟨rfl, KA.out⟩

/-- Two rows of noughts and the box of the times, in new memory. -/
structure New3 (wa w : World) (gp gq bt n : Nat) : Prop where
  kept : Kept wa w
  pre : IntsAt w gp n (fun _ => 0)
  post : IntsAt w gq n (fun _ => 0)
  box : TBox w bt gp gq n 0
  gep : wa.heap.size ≤ gp
  geq : wa.heap.size ≤ gq
  get : wa.heap.size ≤ bt
  ne : gp ≠ gq
  nep : gp ≠ bt
  neq : gq ≠ bt


theorem new3A (wa : World) (n gp gq : Nat) (h : gp = wa.heap.size ∧ gq = wa.heap.size + 1 ∨ gp = wa.heap.size + 1 ∧ gq = wa.heap.size) : New3 wa (((wa.alloc (.cells (madeCells #[.int .i64 0] n) 3)).alloc (.cells (madeCells #[.int .i64 0] n) 3)).alloc (.cells #[.slice (some ⟨gp, 0, none⟩) n n, .slice (some ⟨gq, 0, none⟩) n n, .int .i64 0] 59)).drew gp gq (wa.heap.size + 1 + 1) n := by
  have K : Kept wa (((wa.alloc (.cells (madeCells #[.int .i64 0] n) 3)).alloc (.cells (madeCells #[.int .i64 0] n) 3)).alloc (.cells #[.slice (some ⟨gp, 0, none⟩) n n, .slice (some ⟨gq, 0, none⟩) n n, .int .i64 0] 59)) := (((Kept.refl wa).alloc _).alloc _).alloc _
  have r1 : (((wa.alloc (.cells (madeCells #[.int .i64 0] n) 3)).alloc (.cells (madeCells #[.int .i64 0] n) 3)).alloc (.cells #[.slice (some ⟨gp, 0, none⟩) n n, .slice (some ⟨gq, 0, none⟩) n n, .int .i64 0] 59)).rowIs (wa.heap.size) 3 n (fun _ => .int .i64 0) := by have := World.rowIs.alloc (World.rowIs.alloc (World.rowIs_made wa (.int .i64 0) n 3) (.cells (madeCells #[.int .i64 0] n) 3)) (.cells #[.slice (some ⟨gp, 0, none⟩) n n, .slice (some ⟨gq, 0, none⟩) n n, .int .i64 0] 59); simpa using this
  have r2 : (((wa.alloc (.cells (madeCells #[.int .i64 0] n) 3)).alloc (.cells (madeCells #[.int .i64 0] n) 3)).alloc (.cells #[.slice (some ⟨gp, 0, none⟩) n n, .slice (some ⟨gq, 0, none⟩) n n, .int .i64 0] 59)).rowIs (wa.heap.size + 1) 3 n (fun _ => .int .i64 0) := by have := World.rowIs.alloc (World.rowIs_made (wa.alloc (.cells (madeCells #[.int .i64 0] n) 3)) (.int .i64 0) n 3) (.cells #[.slice (some ⟨gp, 0, none⟩) n n, .slice (some ⟨gq, 0, none⟩) n n, .int .i64 0] 59); simpa using this
  have tb : TBox (((wa.alloc (.cells (madeCells #[.int .i64 0] n) 3)).alloc (.cells (madeCells #[.int .i64 0] n) 3)).alloc (.cells #[.slice (some ⟨gp, 0, none⟩) n n, .slice (some ⟨gq, 0, none⟩) n n, .int .i64 0] 59)) (wa.heap.size + 1 + 1) gp gq n 0 := by constructor <;> simp [go_sem]
  have KD : Kept (((wa.alloc (.cells (madeCells #[.int .i64 0] n) 3)).alloc (.cells (madeCells #[.int .i64 0] n) 3)).alloc (.cells #[.slice (some ⟨gp, 0, none⟩) n n, .slice (some ⟨gq, 0, none⟩) n n, .int .i64 0] 59)) (((wa.alloc (.cells (madeCells #[.int .i64 0] n) 3)).alloc (.cells (madeCells #[.int .i64 0] n) 3)).alloc (.cells #[.slice (some ⟨gp, 0, none⟩) n n, .slice (some ⟨gq, 0, none⟩) n n, .int .i64 0] 59)).drew := (Kept.refl _).drew
  rcases h with ⟨rfl, rfl⟩ | ⟨rfl, rfl⟩
  · exact ⟨K.drew, IntsAt.kept r1 KD, IntsAt.kept r2 KD, tb.ch (Ch.of_kept (F := fun _ => False) KD) (fun t => t), by omega, by omega, by omega, by omega, by omega, by omega⟩
  · exact ⟨K.drew, IntsAt.kept r2 KD, IntsAt.kept r1 KD, tb.ch (Ch.of_kept (F := fun _ => False) KD) (fun t => t), by omega, by omega, by omega, by omega, by omega, by omega⟩

theorem new3B (wa : World) (n gp gq : Nat) (h : gp = wa.heap.size ∧ gq = wa.heap.size + 1 + 1 ∨ gp = wa.heap.size + 1 + 1 ∧ gq = wa.heap.size) : New3 wa (((wa.alloc (.cells (madeCells #[.int .i64 0] n) 3)).alloc (.cells #[.slice (some ⟨gp, 0, none⟩) n n, .slice (some ⟨gq, 0, none⟩) n n, .int .i64 0] 59)).alloc (.cells (madeCells #[.int .i64 0] n) 3)).drew gp gq (wa.heap.size + 1) n := by
  have K : Kept wa (((wa.alloc (.cells (madeCells #[.int .i64 0] n) 3)).alloc (.cells #[.slice (some ⟨gp, 0, none⟩) n n, .slice (some ⟨gq, 0, none⟩) n n, .int .i64 0] 59)).alloc (.cells (madeCells #[.int .i64 0] n) 3)) := (((Kept.refl wa).alloc _).alloc _).alloc _
  have r1 : (((wa.alloc (.cells (madeCells #[.int .i64 0] n) 3)).alloc (.cells #[.slice (some ⟨gp, 0, none⟩) n n, .slice (some ⟨gq, 0, none⟩) n n, .int .i64 0] 59)).alloc (.cells (madeCells #[.int .i64 0] n) 3)).rowIs (wa.heap.size) 3 n (fun _ => .int .i64 0) := by have := World.rowIs.alloc (World.rowIs.alloc (World.rowIs_made wa (.int .i64 0) n 3) (.cells #[.slice (some ⟨gp, 0, none⟩) n n, .slice (some ⟨gq, 0, none⟩) n n, .int .i64 0] 59)) (.cells (madeCells #[.int .i64 0] n) 3); simpa using this
  have r2 : (((wa.alloc (.cells (madeCells #[.int .i64 0] n) 3)).alloc (.cells #[.slice (some ⟨gp, 0, none⟩) n n, .slice (some ⟨gq, 0, none⟩) n n, .int .i64 0] 59)).alloc (.cells (madeCells #[.int .i64 0] n) 3)).rowIs (wa.heap.size + 1 + 1) 3 n (fun _ => .int .i64 0) := by have := World.rowIs_made ((wa.alloc (.cells (madeCells #[.int .i64 0] n) 3)).alloc (.cells #[.slice (some ⟨gp, 0, none⟩) n n, .slice (some ⟨gq, 0, none⟩) n n, .int .i64 0] 59)) (.int .i64 0) n 3; simpa using this
  have tb : TBox (((wa.alloc (.cells (madeCells #[.int .i64 0] n) 3)).alloc (.cells #[.slice (some ⟨gp, 0, none⟩) n n, .slice (some ⟨gq, 0, none⟩) n n, .int .i64 0] 59)).alloc (.cells (madeCells #[.int .i64 0] n) 3)) (wa.heap.size + 1) gp gq n 0 := by constructor <;> simp [go_sem]
  have KD : Kept (((wa.alloc (.cells (madeCells #[.int .i64 0] n) 3)).alloc (.cells #[.slice (some ⟨gp, 0, none⟩) n n, .slice (some ⟨gq, 0, none⟩) n n, .int .i64 0] 59)).alloc (.cells (madeCells #[.int .i64 0] n) 3)) (((wa.alloc (.cells (madeCells #[.int .i64 0] n) 3)).alloc (.cells #[.slice (some ⟨gp, 0, none⟩) n n, .slice (some ⟨gq, 0, none⟩) n n, .int .i64 0] 59)).alloc (.cells (madeCells #[.int .i64 0] n) 3)).drew := (Kept.refl _).drew
  rcases h with ⟨rfl, rfl⟩ | ⟨rfl, rfl⟩
  · exact ⟨K.drew, IntsAt.kept r1 KD, IntsAt.kept r2 KD, tb.ch (Ch.of_kept (F := fun _ => False) KD) (fun t => t), by omega, by omega, by omega, by omega, by omega, by omega⟩
  · exact ⟨K.drew, IntsAt.kept r2 KD, IntsAt.kept r1 KD, tb.ch (Ch.of_kept (F := fun _ => False) KD) (fun t => t), by omega, by omega, by omega, by omega, by omega, by omega⟩

theorem new3C (wa : World) (n gp gq : Nat) (h : gp = wa.heap.size + 1 ∧ gq = wa.heap.size + 1 + 1 ∨ gp = wa.heap.size + 1 + 1 ∧ gq = wa.heap.size + 1) : New3 wa (((wa.alloc (.cells #[.slice (some ⟨gp, 0, none⟩) n n, .slice (some ⟨gq, 0, none⟩) n n, .int .i64 0] 59)).alloc (.cells (madeCells #[.int .i64 0] n) 3)).alloc (.cells (madeCells #[.int .i64 0] n) 3)).drew gp gq (wa.heap.size) n := by
  have K : Kept wa (((wa.alloc (.cells #[.slice (some ⟨gp, 0, none⟩) n n, .slice (some ⟨gq, 0, none⟩) n n, .int .i64 0] 59)).alloc (.cells (madeCells #[.int .i64 0] n) 3)).alloc (.cells (madeCells #[.int .i64 0] n) 3)) := (((Kept.refl wa).alloc _).alloc _).alloc _
  have r1 : (((wa.alloc (.cells #[.slice (some ⟨gp, 0, none⟩) n n, .slice (some ⟨gq, 0, none⟩) n n, .int .i64 0] 59)).alloc (.cells (madeCells #[.int .i64 0] n) 3)).alloc (.cells (madeCells #[.int .i64 0] n) 3)).rowIs (wa.heap.size + 1) 3 n (fun _ => .int .i64 0) := by have := World.rowIs.alloc (World.rowIs_made (wa.alloc (.cells #[.slice (some ⟨gp, 0, none⟩) n n, .slice (some ⟨gq, 0, none⟩) n n, .int .i64 0] 59)) (.int .i64 0) n 3) (.cells (madeCells #[.int .i64 0] n) 3); simpa using this
  have r2 : (((wa.alloc (.cells #[.slice (some ⟨gp, 0, none⟩) n n, .slice (some ⟨gq, 0, none⟩) n n, .int .i64 0] 59)).alloc (.cells (madeCells #[.int .i64 0] n) 3)).alloc (.cells (madeCells #[.int .i64 0] n) 3)).rowIs (wa.heap.size + 1 + 1) 3 n (fun _ => .int .i64 0) := by have := World.rowIs_made ((wa.alloc (.cells #[.slice (some ⟨gp, 0, none⟩) n n, .slice (some ⟨gq, 0, none⟩) n n, .int .i64 0] 59)).alloc (.cells (madeCells #[.int .i64 0] n) 3)) (.int .i64 0) n 3; simpa using this
  have tb : TBox (((wa.alloc (.cells #[.slice (some ⟨gp, 0, none⟩) n n, .slice (some ⟨gq, 0, none⟩) n n, .int .i64 0] 59)).alloc (.cells (madeCells #[.int .i64 0] n) 3)).alloc (.cells (madeCells #[.int .i64 0] n) 3)) (wa.heap.size) gp gq n 0 := by constructor <;> simp [go_sem]
  have KD : Kept (((wa.alloc (.cells #[.slice (some ⟨gp, 0, none⟩) n n, .slice (some ⟨gq, 0, none⟩) n n, .int .i64 0] 59)).alloc (.cells (madeCells #[.int .i64 0] n) 3)).alloc (.cells (madeCells #[.int .i64 0] n) 3)) (((wa.alloc (.cells #[.slice (some ⟨gp, 0, none⟩) n n, .slice (some ⟨gq, 0, none⟩) n n, .int .i64 0] 59)).alloc (.cells (madeCells #[.int .i64 0] n) 3)).alloc (.cells (madeCells #[.int .i64 0] n) 3)).drew := (Kept.refl _).drew
  rcases h with ⟨rfl, rfl⟩ | ⟨rfl, rfl⟩
  · exact ⟨K.drew, IntsAt.kept r1 KD, IntsAt.kept r2 KD, tb.ch (Ch.of_kept (F := fun _ => False) KD) (fun t => t), by omega, by omega, by omega, by omega, by omega, by omega⟩
  · exact ⟨K.drew, IntsAt.kept r2 KD, IntsAt.kept r1 KD, tb.ch (Ch.of_kept (F := fun _ => False) KD) (fun t => t), by omega, by omega, by omega, by omega, by omega, by omega⟩

set_option maxRecDepth 100000 in
set_option maxHeartbeats 8000000 in
theorem visitRR_calls (n : Nat) (hn : n ≤ 1024) (ao : Option Addr) (m cap : Nat) (es : List Ed) (w : World) (h : ERow w ao m cap es) (hf : Hid (faultOf (n : Int) es = (0, 0))) (hrg : Hid (∀ e ∈ es, 0 ≤ e.f ∧ e.f < (n : Int) ∧ 0 ≤ e.t ∧ e.t < (n : Int))) :
    Calls Try.prog 12 #[.agg #[.int .i64 (n : Int), .slice ao m cap]] w fun r w' => ∃ gp gq, r = .returned (.tuple #[.slice (some ⟨gp, 0, none⟩) n n, .slice (some ⟨gq, 0, none⟩) n n, .int .i64 0]) ∧ IntsAt w' gp n (times es n).pre ∧ IntsAt w' gq n (times es n).post ∧ Kept w w' := by
  have hmkI : ∀ w : World, (Instr.makeSlice 26 (.int .i64 (n : Int)) (.int .i64 (n : Int))).run Try.prog w = .ok (.slice (some ⟨w.heap.size, 0, none⟩) n n) (w.alloc (.cells (madeCells #[.int .i64 0] n) 3)) :=
    fun w => run_make_row' 26 3 (.int .i64 0) 8 Try.underlying26 infoJ0 rfl .i64 .i64 n (by omega) (by omega) w
  have KG : Kept w (w.alloc (Obj.cells #[.int .i64 (n : Int), .slice ao m cap] 24)) := (Kept.refl w).alloc _
  have g0 : (w.alloc (Obj.cells #[.int .i64 (n : Int), .slice ao m cap] 24)).cell? ⟨w.heap.size, 0, none⟩ = some (.int .i64 (n : Int)) := by simp [go_sem]
  have g1 : (w.alloc (Obj.cells #[.int .i64 (n : Int), .slice ao m cap] 24)).cell? ⟨w.heap.size, 1, none⟩ = some (.slice ao m cap) := by simp [go_sem]
  have HE := hid_of (h.kept KG)
  clear h
  go_enter Try.func12, Try.ntmps12
  go_wp2_with fail
  generalize hW0 : w.alloc (Obj.cells #[.int .i64 (n : Int), .slice ao m cap] 24) = W0 at KG g0 g1 HE ⊢
  clear hW0
  refine (checkR_calls (n : Int) ao m cap es W0 HE.out 0 0 hf).mono ?_
  rintro v wa ⟨rfl, K1⟩
  replace g0 := K1.cell g0
  replace g1 := K1.cell g1
  have HE1 := hid_of (HE.out.kept K1)
  have KA := hid_of (KG.trans K1)
  clear K1 KG HE
  go_wp2_with fail
  go_cut [7] (fun x wx => ∃ gp gq bt, x = .pointer (some ⟨bt, 0, none⟩) ∧ New3 wa wx gp gq bt n)
  case first =>
    have ga : ∀ o, (wa.alloc o).cell? ⟨w.heap.size, 0, none⟩ = some (.int .i64 (n : Int)) := fun o => ((Kept.refl wa).alloc o).cell g0
    have gb : ∀ o o', ((wa.alloc o).alloc o').cell? ⟨w.heap.size, 0, none⟩ = some (.int .i64 (n : Int)) := fun o o' => (((Kept.refl wa).alloc o).alloc o').cell g0
    go_region
    all_goals
      go_wp2_with fail
      go_meet
      first
        | exact ⟨_, _, _, rfl, new3A wa n _ _ (.inl ⟨rfl, rfl⟩)⟩
        | exact ⟨_, _, _, rfl, new3A wa n _ _ (.inr ⟨rfl, rfl⟩)⟩
        | exact ⟨_, _, _, rfl, new3B wa n _ _ (.inl ⟨rfl, rfl⟩)⟩
        | exact ⟨_, _, _, rfl, new3B wa n _ _ (.inr ⟨rfl, rfl⟩)⟩
        | exact ⟨_, _, _, rfl, new3C wa n _ _ (.inl ⟨rfl, rfl⟩)⟩
        | exact ⟨_, _, _, rfl, new3C wa n _ _ (.inr ⟨rfl, rfl⟩)⟩
  case rest =>
    obtain ⟨gp, gq, bt, rfl, N3⟩ := hcut
    have hgp := N3.gep
    have hgq := N3.geq
    have hgt := N3.get
    have hne := N3.ne
    have ntp := N3.nep
    have ntq := N3.neq
    have hbw : w.heap.size < wa.heap.size := lt_cell g0
    replace g0 := N3.kept.cell g0
    replace g1 := N3.kept.cell g1
    have KB := hid_of (KA.out.trans N3.kept)
    have HE2 := hid_of (HE1.out.kept N3.kept)
    have HE0 := hid_of HE1.out
    have t0 := N3.box.c0
    have t1 := N3.box.c1
    have N3H := hid_of N3
    have n2g : ¬ two2 gp gq w.heap.size := fun t => by rcases t with t | t <;> omega
    have n3g : ¬ tri2 gp gq bt w.heap.size := fun t => by rcases t with t | t | t <;> omega
    have n2t : ¬ two2 gp gq bt := fun t => by rcases t with t | t; exact ntp t.symm; exact ntq t.symm
    have N0 : Hid (Ch (two2 gp gq) wa wc) := Ch.of_kept N3.kept
    clear N3 HE1 KA hmkI
    generalize hWB : wc = WB at *
    clear hWB
    go_wp2_with fail
    go_loopw [8] (fun i wr => ∃ k : Nat, k ≤ n ∧ i = .int .i64 (k : Int) ∧ IntsAt wr gp n (fun j => if j < k then -1 else 0) ∧ IntsAt wr gq n (fun j => if j < k then -1 else 0) ∧ Ch (two2 gp gq) WB wr) (fun i _ => n - (intOf i).toNat)
    case atStart => exact ⟨0, by omega, rfl, N3H.out.pre, N3H.out.post, Ch.refl _ _⟩
    case round =>
      obtain ⟨k, hk, rfl, IP, IQ, C⟩ := hrel
      have x0 := C.cell g0 n2g
      have y0 := C.cell t0 n2t
      have y1 := C.cell t1 n2t
      by_cases hgo : (k : Int) < (n : Int)
      · have hkn : k < n := by omega
        have cp := IP.cell hkn
        have fp := World.rowIs.frozen IP k
        have C1 : Ch (fun j => j = gp) wr (wr.setCell ⟨gp, k, none⟩ (.int .i64 (-1))) := (Ch.refl (fun j => j = gp) wr).setCell (F := fun j => j = gp) (p := ⟨gp, k, none⟩) rfl _
        have IQ1 := IQ.ch C1 (fun t => hne t.symm)
        have cq := IQ1.cell hkn
        have fq := World.rowIs.frozen IQ1 k
        have y1' := C1.cell y1 (fun t => ntp t.symm)
        have C2 : Ch (fun j => j = gq) (wr.setCell ⟨gp, k, none⟩ (.int .i64 (-1))) ((wr.setCell ⟨gp, k, none⟩ (.int .i64 (-1))).setCell ⟨gq, k, none⟩ (.int .i64 (-1))) := (Ch.refl (fun j => j = gq) _).setCell (F := fun j => j = gq) (p := ⟨gq, k, none⟩) rfl _
        have upd : ∀ j, (if j = k then (-1 : Int) else if j < k then -1 else 0) = if j < k + 1 then -1 else 0 := fun j => by
          by_cases e : j = k
          · rw [if_pos e, if_pos (by omega)]
          · by_cases e2 : j < k
            · rw [if_neg e, if_pos e2, if_pos (by omega)]
            · rw [if_neg e, if_neg e2, if_neg (by omega)]
        have IPN : Hid (IntsAt ((wr.setCell ⟨gp, k, none⟩ (.int .i64 (-1))).setCell ⟨gq, k, none⟩ (.int .i64 (-1))) gp n (fun j => if j < k + 1 then -1 else 0)) := World.rowIs.congr ((IP.set k (-1)).ch C2 hne) (fun j _ => by dsimp only; rw [upd j])
        have IQN : Hid (IntsAt ((wr.setCell ⟨gp, k, none⟩ (.int .i64 (-1))).setCell ⟨gq, k, none⟩ (.int .i64 (-1))) gq n (fun j => if j < k + 1 then -1 else 0)) := World.rowIs.congr (IQ1.set k (-1)) (fun j _ => by dsimp only; rw [upd j])
        have CN : Hid (Ch (two2 gp gq) WB ((wr.setCell ⟨gp, k, none⟩ (.int .i64 (-1))).setCell ⟨gq, k, none⟩ (.int .i64 (-1)))) := (C.trans (C1.mono (fun j t => .inl t))).trans (C2.mono (fun j t => .inr t))
        generalize (if k < k then (-1 : Int) else 0) = z0 at cp cq
        clear IP IQ C C1 C2 IQ1 upd N3H
        go_wp2_with fail
        go_roundw
        case rel => exact ⟨k + 1, by omega, by go_num, IPN.out, IQN.out, CN.out⟩
        case measure => simp [intOf]; omega
      · obtain rfl : k = n := by omega
        have T0 : Hid (TAt wr gp gq k tm0) := ⟨World.rowIs.congr IP (fun j hj => by dsimp only; rw [if_pos hj]; rfl), World.rowIs.congr IQ (fun j hj => by dsimp only; rw [if_pos hj]; rfl)⟩
        have B0 := hid_of (N3H.out.box.ch C n2t)
        have C0 : Hid (Ch (tri2 gp gq bt) WB wr) := C.mono (fun j t => by rcases t with t | t; exact .inl t; exact .inr (.inl t))
        clear IP IQ C y0 y1
        generalize hWS : wr = WS at *
        clear hWS hk
        go_wp2_with fail
        go_loopw [9] (fun i wr => ∃ (j : Nat) (s : Tm), j ≤ k ∧ i = .int .i64 (j : Int) ∧ TAt wr gp gq k s ∧ TBox wr bt gp gq k (s.clk : Int) ∧ vis (outs es) k s ((List.range k).drop j) = times es k ∧ s.clk + 2 * Un k s ≤ 2 * k ∧ Ch (tri2 gp gq bt) WB wr) (fun i _ => k - (intOf i).toNat)
        case atStart => exact ⟨0, tm0, by omega, rfl, T0.out, B0.out, rfl, by have := Un_tm0 k; show 0 + _ ≤ _; omega, C0.out⟩
        case round =>
          obtain ⟨j, s, hj, rfl, TA, TB, hvis, hbs, C⟩ := hrel
          clear T0 B0 C0
          have x0 := C.cell g0 n3g
          have x1 := C.cell g1 n3g
          have b0 := TB.c0
          have b1 := TB.c1
          by_cases hgo : (j : Int) < (k : Int)
          · have hjk : j < k := by omega
            have cj := TA.pre.cell hjk
            rw [range_drop hjk] at hvis
            by_cases hp : s.pre j < 0
            · have hl2 := vis_bound (outs_lt hrg.out) hjk hp
              rw [vis_new (outs_lt hrg.out) hjk hp] at hvis
              have VR := hid_of (visitR_calls k hn ao m cap es wa HE0 hrg gp gq hgp hgq hne k wr s j (Un.le k s) hp hjk hbs (N0.out.trans' C (fun i t => by
                rcases t with t | t | t
                · exact .inl (.inl t)
                · exact .inl (.inr t)
                · exact .inr (by omega))) TA)
              obtain ⟨s', hs'⟩ : ∃ s', (vis (outs es) k (s.ent j) (outs es j)).lv j = s' := ⟨_, rfl⟩
              rw [hs'] at VR hvis hl2
              have b2 := TB.c2
              have HV := hid_of hvis
              have TBH := hid_of TB
              have CH := hid_of C
              generalize s.pre j = pj at cj hp
              clear hvis TA TB C hs'
              go_wp2_with fail
              refine VR.out.mono ?_
              rintro r w2 ⟨rfl, TA2, C2⟩
              have TB2 := TBH.out.ch C2 n2t
              have e0 := TB2.c0
              have e1 := TB2.c1
              have e2 := TB2.c2
              have f0 := TB2.z0
              have f1 := TB2.z1
              have f2 := TB2.z2
              have TB5 := hid_of (TB2.put (s'.clk : Int))
              have C5 : Ch (fun k => k = bt) w2 (((w2.setCell ⟨bt, 0, none⟩ (.slice (some ⟨gp, 0, none⟩) k k)).setCell ⟨bt, 1, none⟩ (.slice (some ⟨gq, 0, none⟩) k k)).setCell ⟨bt, 2, none⟩ (.int .i64 (s'.clk : Int))) :=
                (((Ch.refl (fun k => k = bt) w2).setCell (F := fun k => k = bt) (p := ⟨bt, 0, none⟩) rfl _).setCell (F := fun k => k = bt) (p := ⟨bt, 1, none⟩) rfl _).setCell (F := fun k => k = bt) (p := ⟨bt, 2, none⟩) rfl _
              have TA5 := hid_of (TA2.ch C5 ntp ntq)
              have CN := hid_of ((CH.out.trans (C2.mono (fun k t => by rcases t with t | t; exact .inl t; exact .inr (.inl t)))).trans (C5.mono (fun k t => .inr (.inr t))))
              clear C5 TA2 TB2 C2 VR
              go_wp2_with fail
              go_roundw
              case rel => exact ⟨j + 1, s', by omega, by go_num, TA5.out, TB5.out, HV.out, by omega, CN.out⟩
              case measure => simp [intOf]; omega
            · rw [vis_old hp] at hvis
              have HV := hid_of hvis
              have TAH := hid_of TA
              have TBH := hid_of TB
              have CH := hid_of C
              generalize s.pre j = pj at cj hp
              clear hvis TA TB C
              go_wp2_with fail
              go_roundw
              case rel => exact ⟨j + 1, s, by omega, by go_num, TAH.out, TBH.out, HV.out, hbs, CH.out⟩
              case measure => simp [intOf]; omega
          · obtain rfl : j = k := by omega
            have hTe : s = times es j := by rw [← hvis, List.drop_of_length_le (by simp), vis_nil]
            subst hTe
            have TAH := hid_of TA
            have FK := hid_of (KB.out.ch C (fun q t => by have := KB.out.size; rcases t with t | t | t <;> omega))
            clear TA TB C hvis
            go_wp2_with fail
            go_quiet (fail)
            have KD : Kept wr (wr.drewN nq) := (Kept.refl wr).drewN nq
            have FP := hid_of (TAH.out.pre.kept KD)
            have FQ := hid_of (TAH.out.post.kept KD)
            have FF := hid_of (FK.out.trans KD)
            generalize wr.drewN nq = W9 at FP FQ FF ⊢
            go_wp2_with fail
            go_ret3
            exact ⟨gp, gq, rfl, FP.out, FQ.out, FF.out⟩
end Go.Proofs.Ytjheiaegpoppaaa
