/- UnionPlays: the walk of the law. -/
import Derived.Test.YtipkmnhkmnajoaaUnM
namespace Go.Proofs.Ytipkmnhkmnajoaa
open Go.RowKit
open Un

set_option maxRecDepth 100000 in
set_option linter.unusedSimpArgs false in
set_option maxHeartbeats 4000000 in
theorem unionPlaysBad (n : Int) (hn : n < 0 ∨ 1024 < n) (s : Value) (w : World) :
    Calls Try.prog 6 #[.int .i64 n, s] w fun r w' => r = .returned (.bool true) ∧ Kept w w' := by
  have hnot : ∀ (x : Bool) (w : World), (Op.unary .not (.bool x)).run Try.prog w = .ok (.bool (!x)) w := fun _ _ => rfl
  have HN := hid_of hn
  clear hn
  go_enter Try.func6, Try.ntmps6
  go_wp2_with fail
  refine (awakeU_calls w).mono ?_
  rintro r wa ⟨rfl, K1⟩
  have KA := hid_of K1
  clear K1
  go_wp2_with fail
  refine (newBad_calls n wa HN.out).mono ?_
  rintro r wb ⟨rfl, rfl⟩
  go_wp2_with fail
  refine (wrongR_calls n _).mono ?_
  rintro r wb ⟨rfl, rfl⟩
  rw [if_pos HN.out]
  go_wp2_with fail
  go_ret
  exact ⟨rfl, KA.out⟩

set_option maxRecDepth 100000 in
set_option linter.unusedSimpArgs false in
set_option maxHeartbeats 4000000 in
theorem unionPlaysWalk (n : Nat) (hn : n ≤ 1024) (ao : Option Addr) (len cap : Nat) (os : List Op3) (w : World) (h : PRow w ao len cap os) :
    Calls Try.prog 6 #[.int .i64 (n : Int), .slice ao len cap] w fun r w' => r = .returned (.bool true) ∧ Kept w w' := by
  have hnot : ∀ (x : Bool) (w : World), (Op.unary .not (.bool x)).run Try.prog w = .ok (.bool (!x)) w := fun _ _ => rfl
  have hr := h.room
  have hm := h.most
  unfold maxLen at hm
  have HP := hid_of h
  clear h
  go_enter Try.func6, Try.ntmps6
  go_wp2_with fail
  refine (awakeU_calls w).mono ?_
  rintro r wa ⟨rfl, K1⟩
  have KA := hid_of K1
  clear K1
  go_wp2_with fail
  refine (new_calls n wa hn).mono ?_
  rintro r wb ⟨F, p, rfl, ⟨g, S1⟩, K2, L1⟩
  have KB := hid_of (KA.out.trans K2)
  have SB := hid_of S1
  have LB : Hid (∀ k, F k → w.heap.size ≤ k) := fun k hk => Nat.le_trans KA.out.size (L1 k hk)
  clear S1 K2 L1
  go_wp2_with fail
  refine (wrongR_calls (n : Int) _).mono ?_
  rintro r wb2 ⟨rfl, rfl⟩
  rw [if_neg (by omega)]
  go_wp2_with fail
  have KC := (Kept.refl wb).alloc (Obj.cells #[.int .i64 (n : Int), .slice none 0 0] 66)
  have P0 : Hid (Play w (wb.alloc (Obj.cells #[.int .i64 (n : Int), .slice none 0 0] 66)) F p g n none 0 0 [] []) :=
    ⟨SB.out.kept KC, ⟨⟨rfl, by omega, by unfold maxLen; omega, fun t => by omega⟩, rfl, trivial, hn⟩, fun _ => ⟨rfl, rfl⟩, KB.out.trans KC, LB.out, fun k e => by simp [Value.ownBlock] at e⟩
  have c0 : (wb.alloc (Obj.cells #[.int .i64 (n : Int), .slice none 0 0] 66)).cell? ⟨wb.heap.size, 0, none⟩ = some (.int .i64 (n : Int)) := by simp [go_sem]
  have c1 : (wb.alloc (Obj.cells #[.int .i64 (n : Int), .slice none 0 0] 66)).cell? ⟨wb.heap.size, 1, none⟩ = some (.slice none 0 0) := by simp [go_sem]
  have c2 : (wb.alloc (Obj.cells #[.int .i64 (n : Int), .slice none 0 0] 66)).frozen? ⟨wb.heap.size, 0, none⟩ = false := by simp [go_sem]
  have c3 : (wb.alloc (Obj.cells #[.int .i64 (n : Int), .slice none 0 0] 66)).frozen? ⟨wb.heap.size, 1, none⟩ = false := by simp [go_sem]
  have nF0 : Hid (¬ F wb.heap.size) := fun hk => by have := SB.out.base.lt _ hk; omega
  have hW8 := KB.out.size
  have hs8 : wb.heap.size < (wb.alloc (Obj.cells #[.int .i64 (n : Int), .slice none 0 0] 66)).heap.size := by simp
  clear KC KB SB LB KA
  generalize hW1 : wb.alloc (Obj.cells #[.int .i64 (n : Int), .slice none 0 0] 66) = W1 at P0 c0 c1 c2 c3 hs8 ⊢
  clear hW1
  generalize wb.heap.size = b8 at *
  have I0 : Hid (∃ F ao m cap P js, Play w W1 F p g n ao m cap P js ∧ ¬ F b8 ∧ (Value.slice ao m cap).ownBlock ≠ some b8 ∧ b8 < W1.heap.size ∧ W1.cell? ⟨b8, 0, none⟩ = some (.int .i64 (n : Int)) ∧ W1.cell? ⟨b8, 1, none⟩ = some (.slice ao m cap) ∧ W1.frozen? ⟨b8, 0, none⟩ = false ∧ W1.frozen? ⟨b8, 1, none⟩ = false) :=
    ⟨F, none, 0, 0, [], [], P0.out, nF0.out, by simp [Value.ownBlock], hs8, c0, c1, c2, c3⟩
  clear c0 c1 c2 c3 P0 nF0 hs8
  go_loopw [9, 37] (fun _ i wr => ∃ k : Nat, k ≤ len ∧ i = .int .i64 (k : Int) ∧ ∃ F ao m cap P js, Play w wr F p g n ao m cap P js ∧ ¬ F b8 ∧ (Value.slice ao m cap).ownBlock ≠ some b8 ∧ b8 < wr.heap.size ∧ wr.cell? ⟨b8, 0, none⟩ = some (.int .i64 (n : Int)) ∧ wr.cell? ⟨b8, 1, none⟩ = some (.slice ao m cap) ∧ wr.frozen? ⟨b8, 0, none⟩ = false ∧ wr.frozen? ⟨b8, 1, none⟩ = false) (fun _ i _ => len - (intOf i).toNat)
  case atStart => exact ⟨0, by omega, rfl, I0.out⟩
  case round =>
    obtain ⟨k, hk, rfl, F1, ao1, m1, cap1, P1, js1, PL, nF, nb, lb, c0, c1, c2, c3⟩ := hrel
    have PH := hid_of PL
    have NF := hid_of nF
    have NB := hid_of nb
    clear PL nF nb I0
    by_cases hgo : (k : Int) < (len : Int)
    · obtain ⟨b, off, rfl, hc⟩ := HP.out.cell (by omega)
      obtain ⟨d0, d1, d2⟩ := hc k (by omega)
      replace d0 := PH.out.kept.cell d0
      replace d1 := PH.out.kept.cell d1
      replace d2 := PH.out.kept.cell d2
      clear hc HP
      generalize opAt os k = o1 at d0 d1 d2
      obtain ⟨x0, x1, x2⟩ := o1
      simp only at d0 d1 d2
      have KA := (Kept.refl wr).alloc (Obj.cells #[.int .i64 x0, .int .i64 x1, .int .i64 x2] 68)
      have PA := hid_of (PH.out.keptBy KA)
      have e0 := KA.cell c0
      have e1 := KA.cell c1
      have e2 := (Below.frozen (p := ⟨b8, 0, none⟩) KA lb).trans c2
      have e3 := (Below.frozen (p := ⟨b8, 1, none⟩) KA lb).trans c3
      have lb2 : b8 < (wr.alloc (Obj.cells #[.int .i64 x0, .int .i64 x1, .int .i64 x2] 68)).heap.size := Nat.lt_of_lt_of_le lb KA.size
      have lne : b8 ≠ wr.heap.size := by omega
      go_wp2_with fail
      generalize hW2 : wr.alloc (Obj.cells #[.int .i64 x0, .int .i64 x1, .int .i64 x2] 68) = W2 at PA e0 e1 e2 e3 lb2 ⊢
      clear hW2
      refine (step_calls w W2 F1 p g n m1 cap1 ao1 P1 js1 PA.out x0 x1 x2).mono ?_
      rintro e w5 ⟨ao5, m5, cap5, rfl, F5, P5, js5, PL5, C5, E5, L5⟩
      have f0 := C5.cell e0 NF.out
      have f1 := C5.cell e1 NF.out
      have f2 := (C5.frozen (o := 0) lb2 NF.out).trans e2
      have f3 := (C5.frozen (o := 1) lb2 NF.out).trans e3
      have nF5 : ¬ F5 b8 := fun hk => by rcases E5 _ hk with t | t; exact NF.out t; omega
      have nb5 : (Value.slice ao5 m5 cap5).ownBlock ≠ some b8 := fun e => by rcases L5 _ e with t | t; exact NB.out t; omega
      have lb5 : b8 < w5.heap.size := Nat.lt_of_lt_of_le lb2 C5.size
      have P6 := PL5.store (b := b8) nF5 hW8 nb5 (ch_two (w := w5) b8 (.int .i64 (n : Int)) (.slice ao5 m5 cap5))
      obtain ⟨t1, t2, t3, t4⟩ := box2w f0 f1 (.int .i64 (n : Int)) (.slice ao5 m5 cap5)
      have lb6 : b8 < ((w5.setCell ⟨b8, 0, none⟩ (.int .i64 (n : Int))).setCell ⟨b8, 1, none⟩ (.slice ao5 m5 cap5)).heap.size := by simpa [World.setCell] using lb5
      have t5 : ((w5.setCell ⟨b8, 0, none⟩ (.int .i64 (n : Int))).setCell ⟨b8, 1, none⟩ (.slice ao5 m5 cap5)).frozen? ⟨b8, 0, none⟩ = false := by simpa [go_sem] using f2
      have t6 : ((w5.setCell ⟨b8, 0, none⟩ (.int .i64 (n : Int))).setCell ⟨b8, 1, none⟩ (.slice ao5 m5 cap5)).frozen? ⟨b8, 1, none⟩ = false := by simpa [go_sem] using f3
      have P6H := hid_of P6
      have NF5 := hid_of nF5
      have NB5 := hid_of nb5
      have HL5 : Hid (m5 = js5.length) := PL5.doc.len
      have hm5 : m5 ≤ n := by have := HL5.out; have := len_lt PL5.doc.good; omega
      clear PL5 C5 E5 L5 P6 nF5 nb5 PA PH NF NB c0 c1 c2 c3 e0 e1 e2 e3 d0 d1 d2 KA t1 t2
      go_wp2_with fail
      generalize hW6 : (w5.setCell ⟨b8, 0, none⟩ (.int .i64 (n : Int))).setCell ⟨b8, 1, none⟩ (.slice ao5 m5 cap5) = W6 at P6H t3 t4 t5 t6 lb6 ⊢
      clear hW6 f0 f1 f2 f3
      have JC : Hid (∀ W', Kept W6 W' → Calls Try.prog 31 #[.pointer (some ⟨p, 0, none⟩)] W' fun r w' => r = .returned (.int .i64 (m5 : Int)) ∧ W' = w') := fun W' K => by
        have := joins_calls W' F5 p g n js5 (P6H.out.sets.kept K); rw [← HL5.out] at this; exact this
      have CC : Hid (∀ W', Kept W6 W' → Calls Try.prog 32 #[.pointer (some ⟨p, 0, none⟩)] W' fun r w' => r = .returned (.int .i64 ((n : Int) - (m5 : Int))) ∧ Kept W' w') := fun W' K => by
        have := count_calls W' F5 p g n js5 (P6H.out.sets.kept K); rw [← HL5.out] at this; exact this
      clear HL5
      have q5 : ((m5 : Int) != (m5 : Int)) = false := by simp
      have q6 : (((n : Int) - (m5 : Int)) != ((n : Int) - (m5 : Int))) = false := by simp
      have hwr : IntKind.i64.wrap ((n : Int) - (m5 : Int)) = (n : Int) - (m5 : Int) := by rw [IntKind.wrap_i64]; first | omega | (unfold wrap64; omega)
      refine Ord.region [(0, 0), (1, 0), (2, 0), (3, 0), (5, 0), (6, 1), (7, 0), (4, 2), (8, 0), (9, 0), (10, 0), (11, 0), (13, 0), (14, 0), (15, 1), (16, 0), (17, 0), (12, 2), (18, 0), (19, 0)] (fun w' => Kept W6 w') (by kernel_rfl) (by kernel_rfl) (by kernel_rfl) (by kernel_rfl) (fun _ _ d _ _ h => by cases d <;> exact h) ((Kept.refl _).drewN _) ?_
      repeat
        refine Ord.step rfl (fun Ko hK => ?_)
        simp only [Ord.body]
        go_simp
        first
          | (refine hK _ _ ?_; clear hK Ko)
          | (refine ⟨_, fun w' hS => (by have c0 := hS.cell t4; simp only [c0, Result.andThen]; rfl), hK _ _ ?_⟩; clear hK Ko)
          | (go_at_call 31; refine (JC.out _ ((Kept.refl _).drewN _)).mono ?_; rintro e w' ⟨rfl, rfl⟩; refine ⟨(Kept.refl _).drewN _, hK _ _ ?_⟩; clear hK Ko)
          | (go_at_call 32; refine (CC.out _ ((Kept.refl _).drewN _)).mono ?_; rintro e w10 ⟨rfl, K10⟩; refine ⟨((Kept.refl _).drewN _).trans K10, hK _ _ ?_⟩; clear hK Ko; have KN := hid_of (((Kept.refl W6).drewN _).trans K10); clear K10)
      refine Ord.done ?_
      have IN : Hid (∃ F ao m cap P js, Play w w10 F p g n ao m cap P js ∧ ¬ F b8 ∧ (Value.slice ao m cap).ownBlock ≠ some b8 ∧ b8 < w10.heap.size ∧ w10.cell? ⟨b8, 0, none⟩ = some (.int .i64 (n : Int)) ∧ w10.cell? ⟨b8, 1, none⟩ = some (.slice ao m cap) ∧ w10.frozen? ⟨b8, 0, none⟩ = false ∧ w10.frozen? ⟨b8, 1, none⟩ = false) :=
        ⟨F5, ao5, m5, cap5, P5, js5, P6H.out.keptBy KN.out, NF5.out, NB5.out, Nat.lt_of_lt_of_le lb6 KN.out.size, KN.out.cell t3, KN.out.cell t4, (Below.frozen (p := ⟨b8, 0, none⟩) KN.out lb6).trans t5, (Below.frozen (p := ⟨b8, 1, none⟩) KN.out lb6).trans t6⟩
      clear P6H NF5 NB5 t3 t4 t5 t6 JC CC KN
      go_wp2_with fail
      go_roundw
      case rel => exact ⟨k + 1, by omega, by go_num, IN.out⟩
      case measure => simp [intOf]; omega
    · have KW := hid_of PH.out.kept
      clear PH HP c0 c1 c2 c3
      go_wp2_with fail
      go_ret
      exact ⟨rfl, KW.out⟩
end Go.Proofs.Ytipkmnhkmnajoaa
