/- UnionBack: the walk of the law. -/
import Derived.Test.YtipkmnhkmnajoaaUnG
namespace Go.Proofs.Ytipkmnhkmnajoaa
open Go.RowKit
open Un

theorem IRow.far {w w' : World} {G : Nat → Prop} {ao : Option Addr} {n cap : Nat} {zs : List Int} (h : IRow w ao n cap zs) (c : Ch G w w') (hd : ∀ k, (Value.slice ao n cap).ownBlock = some k → ¬ G k) : IRow w' ao n cap zs :=
  ⟨h.len, h.room, h.most, fun hn => by
    obtain ⟨b, off, rfl, hc⟩ := h.cell hn
    exact ⟨b, off, rfl, fun i hi => c.cell (hc i hi) (hd b rfl)⟩⟩

theorem IRow.blk {w : World} {ao : Option Addr} {n cap : Nat} {zs : List Int} (h : IRow w ao n cap zs) (hn : 0 < n) {k : Nat} (e : (Value.slice ao n cap).ownBlock = some k) : k < w.heap.size := by
  obtain ⟨b, off, rfl, hc⟩ := h.cell hn
  simp only [Value.ownBlock, Option.some.injEq] at e
  subst e
  exact World.block_lt_of_cell? _ _ (hc 0 hn)

/-- The sets as they were at so many joins. -/
def was (top : List Jn) (i : Nat) : List Jn := top.drop (top.length - i)
theorem was_top (top : List Jn) : was top top.length = top := by simp [was]
theorem was_zero (top : List Jn) : was top 0 = [] := by simp [was]
theorem was_cons (j : Jn) (js : List Jn) (i : Nat) (h : i ≤ js.length) : was (j :: js) i = was js i := by
  unfold was
  rw [List.length_cons, show js.length + 1 - i = (js.length - i) + 1 by omega, List.drop_succ_cons]
theorem was_succ (top : List Jn) (i : Nat) (h : i < top.length) : ∃ j, was top (i + 1) = j :: was top i := by
  unfold was
  rw [show top.length - i = (top.length - (i + 1)) + 1 by omega]
  rw [List.drop_eq_getElem_cons (i := top.length - (i + 1)) (by omega)]
  exact ⟨_, rfl⟩
theorem was_len (top : List Jn) (i : Nat) (h : i ≤ top.length) : (was top i).length = i := by unfold was; rw [List.length_drop]; omega

/-- What the law holds: the sets, and the names at each number of joins so far. -/
structure BackAt (W w : World) (F : Nat → Prop) (p g : Nat) (v : Value) (top js : List Jn) : Prop where
  sets : SetsAt w F p g 12 js
  kept : Kept W w
  new : ∀ k, F k → W.heap.size ≤ k
  ex : ∃ vs, w.ownsRow W.heap.size 72 1 v (top.length + 1) vs ∧ (∀ k, v.ownBlock = some k → ¬ F k) ∧
    ∀ i, i ≤ top.length → ∃ ao cap, vs[i]? = some (.slice ao 12 cap) ∧ IRow w ao 12 cap (nmTo (was top i) 12) ∧ ∀ k, (Value.slice ao 12 cap).ownBlock = some k → ¬ F k ∧ v.ownBlock ≠ some k

theorem BackAt.keptBy {W w w' : World} {F : Nat → Prop} {p g : Nat} {v : Value} {top js : List Jn} (h : BackAt W w F p g v top js) (K : Kept w w') : BackAt W w' F p g v top js := by
  obtain ⟨vs, o, a, b⟩ := h.ex
  refine ⟨h.sets.kept K, h.kept.trans K, h.new, vs, ownsK o K, a, fun i hi => ?_⟩
  obtain ⟨ao, cap, c, d, e⟩ := b i hi
  exact ⟨ao, cap, c, d.kept K, e⟩

/-- The sets have changed, within what they own. -/
theorem BackAt.turn {W w w' : World} {F F' : Nat → Prop} {p g : Nat} {v : Value} {top js js' : List Jn} (h : BackAt W w F p g v top js) (S : SetsAt w' F' p g 12 js') (C : Ch F w w') (D : ∀ k, F' k → F k ∨ w.heap.size ≤ k) : BackAt W w' F' p g v top js' := by
  obtain ⟨vs, o, a, b⟩ := h.ex
  have hW := h.kept.size
  refine ⟨S, h.kept.ch C h.new, fun k hk => ?_, vs, C.owns o a, fun k e hk => ?_, fun i hi => ?_⟩
  · rcases D k hk with t | t
    · exact h.new k t
    · omega
  · rcases D k hk with t | t
    · exact a k e t
    · have := (o.lt k e).2; omega
  · obtain ⟨ao, cap, c, d, e⟩ := b i hi
    refine ⟨ao, cap, c, d.far C (fun k t => (e k t).1), fun k t => ⟨fun hk => ?_, (e k t).2⟩⟩
    rcases D k hk with q | q
    · exact (e k t).1 q
    · have := d.blk (by omega) t; omega

/-- The names of now are noted behind the others. -/
theorem BackAt.note {W w w1 : World} {F : Nat → Prop} {p g : Nat} {v v' : Value} {j : Jn} {js : List Jn} {o : Obj} {ao : Option Addr} {cap : Nat} (h : BackAt W w F p g v js (j :: js)) (J : IRow w ao 12 cap (nmTo (j :: js) 12))
    (hb : ∀ k, (Value.slice ao 12 cap).ownBlock = some k → ¬ F k ∧ v.ownBlock ≠ some k) (grow : (w.alloc o).grownBy w1 v.ownBlock) (ha : v'.ownBlock = v.ownBlock ∨ v'.ownBlock = some (w.heap.size + 1))
    (own : ∀ vs, w.ownsRow W.heap.size 72 1 v (js.length + 1) vs → w1.ownsRow W.heap.size 72 1 v' (js.length + 1 + 1) (vs ++ [.slice ao 12 cap])) : BackAt W w1 F p g v' (j :: js) (j :: js) := by
  obtain ⟨vs, o1, a, b⟩ := h.ex
  have KA : Kept w (w.alloc o) := (Kept.refl w).alloc o
  have C : Ch (fun k => v.ownBlock = some k) w w1 := (Ch.of_kept KA).trans (.of_grown grow (fun k e => e))
  have hl : vs.length = js.length + 1 := by have := o1.1; omega
  have nw : ∀ k, k < w.heap.size → v.ownBlock ≠ some k → v'.ownBlock ≠ some k := fun k hk hn e => by
    rcases ha with t | t
    · rw [t] at e; exact hn e
    · rw [t] at e; simp only [Option.some.injEq] at e; omega
  refine ⟨h.sets.far C (fun k hk e => a k e hk), h.kept.ch C (fun k e => (o1.lt k e).1), h.new, _, own vs o1, fun k e hk => ?_, fun i hi => ?_⟩
  · rcases ha with t | t
    · rw [t] at e; exact a k e hk
    · rw [t] at e; simp only [Option.some.injEq] at e; have := h.sets.base.lt k hk; omega
  · simp only [List.length_cons] at hi
    by_cases e : i = js.length + 1
    · subst e
      refine ⟨ao, cap, by rw [List.getElem?_append_right (by omega), hl, Nat.sub_self]; rfl, ?_, fun k t => ⟨(hb k t).1, nw k (J.blk (by omega) t) (hb k t).2⟩⟩
      have e2 : was (j :: js) (js.length + 1) = j :: js := was_top (j :: js)
      rw [e2]
      exact J.far C (fun k t => (hb k t).2)
    · obtain ⟨a2, c2, d1, d2, d3⟩ := b i (by omega)
      refine ⟨a2, c2, by rw [List.getElem?_append_left (by omega)]; exact d1, ?_, fun k t => ⟨(d3 k t).1, nw k (d2.blk (by omega) t) (d3 k t).2⟩⟩
      rw [was_cons j js i (by omega)]
      exact d2.far C (fun k t => (d3 k t).2)

theorem ownsRow_uniq {w : World} {base e size n : Nat} {v : Value} {xs ys : List Value} (h : w.ownsRow base e size v n xs) (k : w.ownsRow base e size v n ys) : xs = ys := by
  obtain ⟨h1, h2⟩ := h
  obtain ⟨k1, k2⟩ := k
  rcases h2 with ⟨rfl, rfl⟩ | ⟨g, cap, cur, rfl, _, a, _, _, _, b⟩
  · have e1 : xs = [] := List.eq_nil_of_length_eq_zero (by omega)
    have e2 : ys = [] := List.eq_nil_of_length_eq_zero (by omega)
    rw [e1, e2]
  · rcases k2 with ⟨t, _⟩ | ⟨g', cap', cur', t, _, a', _, _, _, b'⟩
    · simp at t
    · simp only [Value.slice.injEq, Option.some.injEq, Addr.mk.injEq, and_true, true_and] at t
      obtain ⟨rfl, rfl⟩ := t
      rw [a] at a'
      simp only [Option.some.injEq, Obj.cells.injEq, and_true] at a'
      rw [← b, ← b', a']

theorem fresh_step {n : Nat} {js : List Jn} {u v : Int} (h : freshOf n js u v = true) : ∃ j, stepJ n js u v = j :: js := by
  unfold freshOf at h
  simp only [Bool.and_eq_true, decide_eq_true_eq] at h
  unfold stepJ joinOf
  rw [if_pos h.1, if_neg h.2]
  split
  · exact ⟨_, rfl⟩
  · exact ⟨_, rfl⟩
theorem stale_step {n : Nat} {js : List Jn} {u v : Int} (h : freshOf n js u v = false) : stepJ n js u v = js := by
  unfold freshOf at h
  simp only [Bool.and_eq_false_iff, decide_eq_false_iff_not, Decidable.not_not] at h
  unfold stepJ joinOf
  split
  · rename_i c
    rcases h with t | t
    · exact absurd c t
    · rw [if_pos t]
  · rfl

theorem infoR0 : (Try.prog.info? 72).map (fun i => (i.zero, i.size, i.bytes)) = some (some (.slice none 0 0), 1, 24) := by kernel_rfl
theorem infoR : ∃ i : TypeInfo, Try.prog.info? 72 = some i ∧ i.zero = some (.slice none 0 0) ∧ i.size = 1 ∧ i.bytes = 24 := by
  have h := infoR0
  cases e : Try.prog.info? 72 with
  | none => rw [e] at h; cases h
  | some i =>
    rw [e] at h
    simp only [Option.map_some, Option.some.injEq, Prod.mk.injEq] at h
    exact ⟨i, rfl, h.1, h.2.1, h.2.2⟩

set_option maxRecDepth 100000 in
set_option linter.unusedSimpArgs false in
set_option maxHeartbeats 4000000 in
theorem unionBackWalk (ao : Option Addr) (n cap : Nat) (os : List Op3) (back : Int) (w : World) (h : PRow w ao n cap os) :
    Calls Try.prog 7 #[.slice ao n cap, .int .i64 back] w fun r w' => r = .returned (.bool true) ∧ Kept w w' := by
  have hnot : ∀ (x : Bool) (w : World), (Op.unary .not (.bool x)).run Try.prog w = .ok (.bool (!x)) w := fun _ _ => rfl
  obtain ⟨i0, hi, hz0, hz1, hz2⟩ := infoR
  have hr := h.room
  have hm := h.most
  unfold maxLen at hm
  have HP := hid_of h
  clear h
  go_enter Try.func7, Try.ntmps7
  go_wp2_with fail
  refine (awakeU_calls w).mono ?_
  rintro r wa ⟨rfl, K1⟩
  have KA := hid_of K1
  clear K1
  go_wp2_with fail
  refine (new_calls 12 wa (by omega)).mono ?_
  rintro r wb ⟨F, p, rfl, ⟨g, S1⟩, K2, L1⟩
  have KB := hid_of (KA.out.trans K2)
  have SB := hid_of S1
  have LB : Hid (∀ k, F k → w.heap.size ≤ k) := fun k hk => Nat.le_trans KA.out.size (L1 k hk)
  clear S1 K2 L1
  go_wp2_with fail
  refine (names_calls _ F p g 12 [] SB.out).mono ?_
  rintro e w3 ⟨⟨ao1, cap1, rfl, J1, N1⟩, K3⟩
  have KC := KB.out.trans K3
  have B0 : Hid (BackAt w (w3.alloc (Obj.cells #[.slice ao1 12 cap1] 72)) F p g (.slice (some ⟨w3.heap.size, 0, none⟩) 1 1) [] []) := by
    refine ⟨(SB.out.kept K3).kept ((Kept.refl _).alloc _), KC.alloc _, LB.out, [.slice ao1 12 cap1], World.ownsRow_lit (base := w.heap.size) (e := 72) (size := 1) w3 #[.slice ao1 12 cap1] 1 KC.size (by unfold maxLen; omega) rfl, ?_, ?_⟩
    · intro k e hk
      simp only [Value.ownBlock, Option.some.injEq] at e
      have := (SB.out.kept K3).base.lt k hk
      omega
    · intro i hi
      have hi0 : i = 0 := by simpa using hi
      subst hi0
      refine ⟨ao1, cap1, rfl, J1.kept ((Kept.refl _).alloc _), fun k e => ⟨fun hk => ?_, fun e2 => ?_⟩⟩
      · have := N1 k e; have := SB.out.base.lt k hk; omega
      · simp only [Value.ownBlock, Option.some.injEq] at e2
        have := J1.blk (by omega) e
        omega
  clear KB SB LB J1 N1 K3 KC KA
  go_wp2_with fail
  generalize w3.alloc (Obj.cells #[.slice ao1 12 cap1] 72) = W4 at B0 ⊢
  go_loopw [7, 30] (fun v i wr => ∃ k : Nat, k ≤ n ∧ i = .int .i64 (k : Int) ∧ ∃ F js, BackAt w wr F p g v js js) (fun _ i _ => n - (intOf i).toNat)
  case atStart => exact ⟨0, by omega, rfl, F, [], B0.out⟩
  case round =>
    obtain ⟨k, hk, rfl, F1, js, B⟩ := hrel
    have BH := hid_of B
    clear B B0
    by_cases hgo : (k : Int) < (n : Int)
    · obtain ⟨b, off, rfl, hc⟩ := HP.out.cell (by omega)
      obtain ⟨c1, c2, c3⟩ := hc k (by omega)
      have d1 := BH.out.kept.cell c1
      have d2 := BH.out.kept.cell c2
      have d3 := BH.out.kept.cell c3
      clear hc HP c1 c2 c3
      generalize opAt os k = o1 at d1 d2 d3
      obtain ⟨x0, x1, x2⟩ := o1
      simp only at d1 d2 d3
      have BA := hid_of (BH.out.keptBy ((Kept.refl _).alloc (Obj.cells #[.int .i64 x0, .int .i64 x1, .int .i64 x2] 68)))
      have C := hid_of (joinZ_calls _ F1 p g 12 js BA.out.sets x1 x2)
      go_wp2_with fail
      refine C.out.mono ?_
      rintro e w5 ⟨rfl, F2, S5, C5, D5⟩
      have B5 := BA.out.turn S5 C5 D5
      clear S5 C5 D5 C BA BH d1 d2 d3
      cases hf : freshOf 12 js x1 x2 with
      | false =>
        rw [stale_step hf] at B5
        have B5H := hid_of B5
        clear B5 hf
        go_wp2_with fail
        go_roundw
        case rel => exact ⟨k + 1, by omega, by go_num, F2, js, B5H.out⟩
        case measure => simp [intOf]; omega
      | true =>
        obtain ⟨j, ej⟩ := fresh_step hf
        rw [ej] at B5
        have B5H := hid_of B5
        have hlen := len_lt B5.sets.good
        simp only [List.length_cons] at hlen
        clear B5 hf ej
        go_wp2_with fail
        refine (names_calls _ F2 p g 12 (j :: js) B5H.out.sets).mono ?_
        rintro e w6 ⟨⟨ao6, cap6, rfl, J6, N6⟩, K6⟩
        have B6 := B5H.out.keptBy K6
        have J6H := hid_of J6
        have NB : Hid (∀ k, (Value.slice ao6 12 cap6).ownBlock = some k → ¬ F2 k ∧ u7.ownBlock ≠ some k) := fun k e => by
          have h1 := N6 k e
          refine ⟨fun hk => ?_, fun e2 => ?_⟩
          · have := B5H.out.sets.base.lt k hk; omega
          · obtain ⟨vs, o5, -⟩ := B5H.out.ex
            have := (o5.lt k e2).2; omega
        obtain ⟨vs, o6, -⟩ := B6.ex
        have B6H := hid_of B6
        have hw6 := B6.kept.size
        have NW := hid_of (cell_newi w6 72 (.slice ao6 12 cap6))
        have HM := hid_of (o6.alloc (Obj.cells #[.slice ao6 12 cap6] 72))
        have X1 : Hid (js.length + 1 + 1 ≤ maxLen) := by show js.length + 1 + 1 ≤ maxLen; unfold maxLen; omega
        have X2 : Hid ((js.length + 1 + 1) * 24 ≤ 140737488355328) := by show (js.length + 1 + 1) * 24 ≤ 140737488355328; omega
        have O6 := hid_of o6
        clear o6 B6 J6 N6 K6 B5H
        go_wp2_with (at_builtin; refine wpList_append_own_at _ rfl _ _ 74 rfl w.heap.size 72 i0 _ 1 24 Try.underlying74 hi hz0 hz1 hz2 rfl (by decide) _ _ _ rfl HM.out ⟨w6.heap.size, 0, none⟩ 1 1 [.slice ao6 12 cap6] rfl rfl NW.out (by intro u hu; simp at hu; subst hu; rfl) X1.out X2.out (by simp; omega) ?_)
        intro v' w7 own grow _ ha
        have B7 := hid_of (B6H.out.note (o := Obj.cells #[.slice ao6 12 cap6] 72) J6H.out NB.out grow (by simpa using ha) (fun vs2 o2 => by rw [ownsRow_uniq o2 O6.out]; exact own))
        clear own grow ha HM NW X1 X2 O6 B6H J6H NB
        go_wp2_with fail
        go_roundw
        case rel => exact ⟨k + 1, by omega, by go_num, F2, j :: js, B7.out⟩
        case measure => simp [intOf]; omega
    · obtain rfl : k = n := by omega
      have hl := len_lt BH.out.sets.good
      obtain ⟨vs, o1, -⟩ := BH.out.ex
      obtain ⟨g7, cap7, rfl, -, -⟩ := o1.form (by omega)
      clear o1 HP
      generalize hjs : js = top at *
      clear hjs
      have B1 : Hid (∃ F, BackAt w wr F p g (.slice (some ⟨g7, 0, none⟩) (top.length + 1) cap7) top (was top top.length)) := ⟨F1, by rw [was_top]; exact BH.out⟩
      clear BH
      have hl2 : top.length ≤ 12 := by omega
      have HL : Hid (∃ L, top.length = L) := ⟨_, rfl⟩
      go_wp2_with fail
      go_loopw [12] (fun i wr => ∃ q : Nat, q ≤ top.length ∧ i = .int .i64 (q : Int) ∧ ∃ F, BackAt w wr F p g (.slice (some ⟨g7, 0, none⟩) (top.length + 1) cap7) top (was top q)) (fun i _ => (intOf i).toNat)
      case atStart =>
        refine ⟨top.length, Nat.le_refl _, by go_num, B1.out⟩
      case round =>
        obtain ⟨q, hq, rfl, F3, B⟩ := hrel
        have BH := hid_of B
        clear B B1
        obtain ⟨vs3, o3, -, b3⟩ := BH.out.ex
        obtain ⟨ao3, cap3, y3, J3, -⟩ := b3 q hq
        have z3 : wr.cell? ⟨g7, q, none⟩ = some (.slice ao3 12 cap3) := (o3.cellAt q (by omega)).trans y3
        have room : top.length + 1 ≤ cap7 ∧ cap7 ≤ 9223372036854775807 := by
          rcases o3.2 with ⟨t, t2⟩ | ⟨g', cap', cur, t, _, _, a, b, _⟩
          · simp at t
          · simp only [Value.slice.injEq, Option.some.injEq, Addr.mk.injEq, and_true, true_and] at t
            obtain ⟨rfl, rfl⟩ := t
            unfold maxLen at b
            exact ⟨a, by omega⟩
        obtain ⟨rm, mx⟩ := room
        have J3H := hid_of J3
        clear o3 b3 y3 J3
        by_cases hgo : (0 : Int) < (q : Int)
        · have el := was_len top q hq
          go_wp2_with fail
          have JC : Hid (∀ W', Kept wr W' → Calls Try.prog 31 #[.pointer (some ⟨p, 0, none⟩)] W' fun r w' => r = .returned (.int .i64 (q : Int)) ∧ W' = w') := fun W' K => by
            have := joins_calls W' F3 p g 12 (was top q) (BH.out.sets.kept K); rw [el] at this; exact this
          have CC : Hid (∀ W', Kept wr W' → Calls Try.prog 32 #[.pointer (some ⟨p, 0, none⟩)] W' fun r w' => r = .returned (.int .i64 (12 - (q : Int))) ∧ Kept W' w') := fun W' K => by
            have := count_calls W' F3 p g 12 (was top q) (BH.out.sets.kept K); rw [el] at this; exact this
          have NC := hid_of (fun W' (K : Kept wr W') => names_calls W' F3 p g 12 (was top q) (BH.out.sets.kept K))
          have IC := hid_of (fun W' (K : Kept wr W') a1 c1 (J : IRow W' a1 12 c1 (nmTo (was top q) 12)) => intsU_calls a1 ao3 12 c1 cap3 (nmTo (was top q) 12) W' J (J3H.out.kept K))
          have hqa : (q : Int) < (top.length : Int) + 1 := by omega
          have hqc : q < top.length + 1 := by omega
          have hqd : q ≤ top.length := hq
          have q5 : ((q : Int) != (q : Int)) = false := by simp
          have q6 : ((12 - (q : Int)) != (12 - (q : Int))) = false := by simp
          have hwr : IntKind.i64.wrap (12 - (q : Int)) = 12 - (q : Int) := by rw [IntKind.wrap_i64]; first | omega | (unfold wrap64; omega)
          refine Ord.region [(0, 0), (2, 0), (3, 0), (4, 0), (5, 1), (1, 2), (6, 2), (7, 0), (8, 0), (9, 0), (11, 0), (10, 2), (12, 0), (13, 0), (14, 0), (15, 0), (17, 0), (18, 0), (16, 2), (19, 0), (20, 0)] (fun w' => Kept wr w') (by kernel_rfl) (by kernel_rfl) (by kernel_rfl) (by kernel_rfl) (fun _ _ d _ _ h => by cases d <;> exact h) ((Kept.refl _).drewN _) ?_
          repeat
            refine Ord.step rfl (fun Ko hK => ?_)
            simp only [Ord.body]
            go_simp
            first
              | (refine hK _ _ ?_; clear hK Ko)
              | (refine ⟨_, fun w' hS => (by have c0 := hS.cell z3; simp only [c0, Result.andThen]; rfl), hK _ _ ?_⟩; clear hK Ko)
              | (go_at_call 33; refine (NC.out _ ((Kept.refl _).drewN _)).mono ?_; rintro e w8 ⟨⟨ao8, cap8, rfl, J8, -⟩, K8⟩; refine ⟨((Kept.refl _).drewN _).trans K8, hK _ _ ?_⟩; clear hK Ko; have KN8 := hid_of (((Kept.refl _).drewN _).trans K8); clear K8 NC)
              | (go_at_call 35; refine (IC.out _ KN8.out _ _ J8).mono ?_; rintro e w9 ⟨rfl, K9⟩; refine ⟨KN8.out.trans K9, hK _ _ ?_⟩; clear hK Ko; have KN9 := hid_of (KN8.out.trans K9); clear K9 IC KN8)
              | (go_at_call 31; refine (JC.out _ KN9.out).mono ?_; rintro e w' ⟨rfl, rfl⟩; refine ⟨KN9.out, hK _ _ ?_⟩; clear hK Ko)
              | (go_at_call 32; refine (CC.out _ KN9.out).mono ?_; rintro e w10 ⟨rfl, K10⟩; refine ⟨KN9.out.trans K10, hK _ _ ?_⟩; clear hK Ko; have KN10 := hid_of (KN9.out.trans K10); clear K10)
          refine Ord.done ?_
          have BK := hid_of (BH.out.keptBy KN10.out)
          clear BH z3 J3H JC CC KN9 J8 el
          by_cases hb : (q : Int) = back
          · have q7 : ((q : Int) == back) = true := by simp [hb]
            clear hb
            go_wp2_with fail
            go_ret
            exact ⟨rfl, BK.out.kept⟩
          · have q7 : ((q : Int) == back) = false := by simp [hb]
            clear hb
            obtain ⟨j, ej⟩ := was_succ top (q - 1) (by omega)
            rw [show q - 1 + 1 = q by omega] at ej
            have BK2 := BK.out
            rw [ej] at BK2
            have UC := hid_of (undo_calls _ F3 p g 12 j (was top (q - 1)) BK2.sets)
            have BKH := hid_of BK2
            clear BK BK2 ej
            go_wp2_with (go_at_call 36; refine UC.out.mono ?_; rintro e w11 ⟨rfl, S11, C11⟩; have B11 := hid_of (BKH.out.turn S11 C11 (fun k hk => .inl hk)); clear S11 C11 UC BKH)
            go_roundw
            case rel => exact ⟨q - 1, by omega, by go_num, F3, B11.out⟩
            case measure => simp [intOf]; omega
        · obtain rfl : q = 0 := by omega
          have B0' := BH.out
          rw [was_zero] at B0'
          have UC := hid_of (fun W' (K : Kept wr W') => undo0_calls W' F3 p g 12 (B0'.sets.kept K))
          have NC := hid_of (fun W' (K : Kept wr W') => names_calls W' F3 p g 12 [] (B0'.sets.kept K))
          rw [was_zero] at J3H
          have IC := hid_of (fun W' (K : Kept wr W') a1 c1 (J : IRow W' a1 12 c1 (nmTo [] 12)) => intsU_calls a1 ao3 12 c1 cap3 (nmTo [] 12) W' J (J3H.out.kept K))
          have KW := hid_of B0'.kept
          clear B0' BH J3H
          go_wp2_with fail
          refine Ord.region [(0, 0), (1, 2), (2, 0), (3, 0), (4, 0), (6, 0), (7, 0), (8, 1), (5, 2), (9, 2), (10, 0), (11, 0)] (fun w' => Kept wr w') (by kernel_rfl) (by kernel_rfl) (by kernel_rfl) (by kernel_rfl) (fun _ _ d _ _ h => by cases d <;> exact h) ((Kept.refl _).drewN _) ?_
          repeat
            refine Ord.step rfl (fun Ko hK => ?_)
            simp only [Ord.body]
            go_simp
            first
              | (refine hK _ _ ?_; clear hK Ko)
              | (refine ⟨_, fun w' hS => (by have c0 := hS.cell z3; simp only [c0, Result.andThen]; rfl), hK _ _ ?_⟩; clear hK Ko)
              | (go_at_call 36; refine (UC.out _ ((Kept.refl _).drewN _)).mono ?_; rintro e w' ⟨rfl, rfl⟩; refine ⟨(Kept.refl _).drewN _, hK _ _ ?_⟩; clear hK Ko)
              | (go_at_call 33; refine (NC.out _ ((Kept.refl _).drewN _)).mono ?_; rintro e w8 ⟨⟨ao8, cap8, rfl, J8, -⟩, K8⟩; refine ⟨((Kept.refl _).drewN _).trans K8, hK _ _ ?_⟩; clear hK Ko; have KN8 := hid_of (((Kept.refl _).drewN _).trans K8); clear K8 NC)
              | (go_at_call 35; refine (IC.out _ KN8.out _ _ J8).mono ?_; rintro e w9 ⟨rfl, K9⟩; refine ⟨KN8.out.trans K9, hK _ _ ?_⟩; clear hK Ko; have KN9 := hid_of (KN8.out.trans K9); clear K9 IC KN8)
          refine Ord.done ?_
          go_wp2_with fail
          go_ret
          exact ⟨rfl, KW.out.trans KN9.out⟩
end Go.Proofs.Ytipkmnhkmnajoaa
