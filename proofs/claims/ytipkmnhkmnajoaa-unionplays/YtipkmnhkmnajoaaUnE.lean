/- New, Find, Join. -/
import Derived.Test.YtipkmnhkmnajoaaUnD
namespace Go.Proofs.Ytipkmnhkmnajoaa
open Go.RowKit
open Un

namespace Un
/-- The first k trees are laid. -/
def newT (k : Nat) : Nat → Tr := fun u => if u < k then ⟨u, 1, u⟩ else ⟨0, 0, 0⟩
theorem newT_succ (k : Nat) : setTree (newT k) k ⟨k, 1, k⟩ = newT (k + 1) := by
  funext u
  unfold setTree newT
  by_cases e : u = k
  · subst e; rw [if_pos rfl, if_pos (by omega)]
  · rw [if_neg e]
    by_cases l : u < k
    · rw [if_pos l, if_pos (by omega)]
    · rw [if_neg l, if_neg (by omega)]
theorem newT_all (n : Nat) : tvals (newT n) n = tvals (tr []) n := by
  refine tvals_ext _ _ _ (tvals_len _ _) fun i hi => ?_
  have := tvals_get (newT n) n i hi
  have e : newT n i = tr [] i := by unfold newT; rw [if_pos hi]; rfl
  rw [e] at this
  exact this
theorem made_t (n : Nat) : (madeCells (Value.agg #[.int .i64 0, .int .i64 0, .int .i64 0]).cells (n * 3)).toList = tvals (newT 0) n := by
  refine tvals_ext _ _ _ (by rw [Array.length_toList, size_madeCells]) fun i hi => ?_
  have z : ∀ m, m < n * 3 → ((madeCells (Value.agg #[.int .i64 0, .int .i64 0, .int .i64 0]).cells (n * 3)).toList)[m]? = some (.int .i64 0) := fun m hm => by
    have hc : (Value.agg #[.int .i64 0, .int .i64 0, .int .i64 0]).cells = #[.int .i64 0, .int .i64 0, .int .i64 0] := rfl
    rw [hc]
    unfold madeCells
    simp only [Array.toList_map, Array.toList_range, List.getElem?_map, List.getElem?_range hm, Option.map_some, Option.some.injEq]
    have h3 : m % 3 = 0 ∨ m % 3 = 1 ∨ m % 3 = 2 := by omega
    show (#[Value.int .i64 0, Value.int .i64 0, Value.int .i64 0] : Array Value)[m % 3]! = _
    rcases h3 with t | t | t <;> rw [t] <;> rfl
  rw [z _ (by omega), z _ (by omega), z _ (by omega)]
  exact ⟨rfl, rfl, rfl⟩
end Un

theorem infoTr0 : (Try.prog.info? 106).map (fun i => (i.zero, i.size, i.bytes)) = some (some (.agg #[.int .i64 0, .int .i64 0, .int .i64 0]), 3, 24) := by kernel_rfl
theorem infoTr : ∃ i : TypeInfo, Try.prog.info? 106 = some i ∧ i.zero = some (.agg #[.int .i64 0, .int .i64 0, .int .i64 0]) ∧ i.size = 3 ∧ i.bytes = 24 := by
  have h := infoTr0
  cases e : Try.prog.info? 106 with
  | none => rw [e] at h; cases h
  | some i =>
    rw [e] at h
    simp only [Option.map_some, Option.some.injEq, Prod.mk.injEq] at h
    exact ⟨i, rfl, h.1, h.2.1, h.2.2⟩

set_option maxRecDepth 100000 in
theorem newBad_calls (n : Int) (w : World) (hn : n < 0 ∨ 1024 < n) :
    Calls Try.prog 28 #[.int .i64 n] w fun e w' => e = .returned (.tuple #[.pointer none, .int .i64 3]) ∧ w = w' := by
  by_cases h0 : n < 0
  · go_enter Try.func28, Try.ntmps28
    go_wp2
    go_ret2
    exact ⟨rfl, rfl⟩
  · have h1 : 1024 < n := by omega
    clear hn
    go_enter Try.func28, Try.ntmps28
    go_wp2
    go_ret2
    exact ⟨rfl, rfl⟩

set_option maxRecDepth 100000 in
set_option maxHeartbeats 2000000 in
theorem new_calls (n : Nat) (w : World) (hn : n ≤ 1024) :
    Calls Try.prog 28 #[.int .i64 (n : Int)] w fun e w' => ∃ F p, e = .returned (.tuple #[.pointer (some ⟨p, 0, none⟩), .int .i64 0]) ∧ (∃ g, SetsAt w' F p g n []) ∧ Kept w w' ∧ ∀ k, F k → w.heap.size ≤ k := by
  obtain ⟨i0, hi, hz0, hz1, hz2⟩ := infoTr
  have h0 : ¬ (n : Int) < 0 := by omega
  have h1 : ¬ (1024 : Int) < (n : Int) := by omega
  go_enter Try.func28, Try.ntmps28
  go_wp2_with (at_make; refine wpList_make_full _ rfl _ _ 104 rfl 0 106 i0 (.agg #[.int .i64 0, .int .i64 0, .int .i64 0]) 3 Try.underlying104 hi hz0 hz1 .i64 .i64 _ _ n rfl rfl rfl rfl (by rw [hz2]; omega) (by unfold maxLen; omega) (Nat.zero_le _) ?_)
  intro W1 own grow
  replace own : W1.ownsRow 0 106 3 (.slice (some ⟨w.heap.size, 0, none⟩) n n) n (tvals (newT 0) n) := by rw [← made_t]; exact own
  have K1 : Kept w W1 := Below.grown (Kept.refl _) grow (Nat.le_refl _) (fun k e => by simp at e)
  have HO := hid_of own
  have HK := hid_of K1
  have lg : w.heap.size < W1.heap.size := (own.lt _ rfl).2
  clear own grow K1
  go_wp2_with fail
  go_loopw [15] (fun i wr => ∃ k : Nat, k ≤ n ∧ i = .int .i64 (k : Int) ∧ wr.ownsRow 0 106 3 (.slice (some ⟨w.heap.size, 0, none⟩) n n) n (tvals (newT k) n) ∧ Kept w wr ∧ w.heap.size < wr.heap.size) (fun i _ => n - (intOf i).toNat)
  case atStart => exact ⟨0, by omega, rfl, HO.out, HK.out, lg⟩
  case round =>
    obtain ⟨k, hk, rfl, O, K, L⟩ := hrel
    have OH := hid_of O
    have KH := hid_of K
    by_cases hgo : (k : Int) < (n : Int)
    · obtain ⟨a1, a2, a3⟩ := tvals_get (newT k) n k (by omega)
      have d1 := (O.cellAt (k * 3) (by omega)).trans a1
      have d2 := (O.cellAt (k * 3 + 1) (by omega)).trans a2
      have d3 := (O.cellAt (k * 3 + 2) (by omega)).trans a3
      have f1 := O.frozenAt (k * 3)
      have f2 := O.frozenAt (k * 3 + 1)
      have f3 := O.frozenAt (k * 3 + 2)
      clear a1 a2 a3 O K
      go_wp2_with fail
      have O1 := (((OH.out.stored (k * 3) (.int .i64 (k : Int))).1.stored (k * 3 + 1) (.int .i64 1)).1.stored (k * 3 + 2) (.int .i64 (k : Int))).1
      have e := tvals_tree (newT k) n k ⟨k, 1, k⟩ (by omega)
      simp only [newT_succ] at e
      have e' : (((tvals (newT k) n).set (k * 3) (.int .i64 (k : Int))).set (k * 3 + 1) (.int .i64 1)).set (k * 3 + 2) (.int .i64 (k : Int)) = tvals (newT (k + 1)) n := e
      rw [e'] at O1
      have K1 := ((KH.out.setCell (p := ⟨w.heap.size, k * 3, none⟩) (Nat.le_refl _) (.int .i64 (k : Int))).setCell (p := ⟨w.heap.size, k * 3 + 1, none⟩) (Nat.le_refl _) (.int .i64 1)).setCell (p := ⟨w.heap.size, k * 3 + 2, none⟩) (Nat.le_refl _) (.int .i64 (k : Int))
      have O1H := hid_of O1
      have K1H := hid_of K1
      clear O1 K1 e e' OH KH d1 d2 d3 f1 f2 f3
      go_roundw
      case rel => exact ⟨k + 1, by omega, by go_num, O1H.out, K1H.out, by simpa [World.setCell] using L⟩
      case measure => simp [intOf]; omega
    · obtain rfl : k = n := by omega
      clear O K
      have O1 := OH.out
      rw [newT_all] at O1
      have KA : Kept wr (wr.alloc (Obj.cells #[.slice (some ⟨w.heap.size, 0, none⟩) k k, .slice none 0 0] 109)) := (Kept.refl wr).alloc _
      have S : SetsAt (wr.alloc (Obj.cells #[.slice (some ⟨w.heap.size, 0, none⟩) k k, .slice none 0 0] 109)) (fun x => x = w.heap.size ∨ x = wr.heap.size) wr.heap.size w.heap.size k [] :=
        ⟨⟨by simp [go_sem], O1.alloc _, ⟨none, 0, by simp [go_sem], World.ownsRow_nil _ _ _ _, by simp [Value.ownBlock], by simp [Value.ownBlock], by simp [Value.ownBlock]⟩, by omega, .inr rfl, .inl rfl, by simp [go_sem], by simp [go_sem], fun x hx => by
          have : (wr.alloc (Obj.cells #[.slice (some ⟨w.heap.size, 0, none⟩) k k, .slice none 0 0] 109)).heap.size = wr.heap.size + 1 := by simp
          rw [this]; omega, hn⟩, trivial⟩
      have SH := hid_of S
      clear S O1 OH
      go_wp2_with fail
      refine bodyPost_ret (v := .tuple #[.pointer (some ⟨wr.heap.size, 0, none⟩), .int .i64 0]) (by simp [results, Try.results28, go_sem]) rfl ?_
      exact ⟨_, _, rfl, ⟨_, SH.out⟩, KH.out.trans KA, fun x hx => by rcases hx with rfl | rfl; exact Nat.le_refl _; omega⟩

theorem findBad_calls (w : World) (F : Nat → Prop) (p g n : Nat) (js : List Jn) (h : SetsAt w F p g n js) (v : Int) (hv : v < 0 ∨ (n : Int) ≤ v) :
    Calls Try.prog 55 #[.pointer (some ⟨p, 0, none⟩), .int .i64 v] w fun e w' => e = .returned (.tuple #[.int .i64 0, .int .i64 30]) ∧ w = w' := by
  have C := hid_of (isNodeS_calls w F p g n js h v)
  have e : (decide (0 ≤ v) && decide (v < (n : Int))) = false := by simp; omega
  rw [e] at C
  clear h hv
  go_enter Try.func55, Try.ntmps55
  go_wp2_with (go_at_call 60; refine C.out.mono ?_; rintro e w' ⟨rfl, rfl⟩)
  go_ret2
  exact ⟨rfl, rfl⟩

set_option maxRecDepth 100000 in
set_option maxHeartbeats 2000000 in
theorem find_calls (w : World) (F : Nat → Prop) (p g n : Nat) (js : List Jn) (h : SetsAt w F p g n js) (v : Nat) (hv : v < n) :
    Calls Try.prog 55 #[.pointer (some ⟨p, 0, none⟩), .int .i64 (v : Int)] w fun e w' => e = .returned (.tuple #[.int .i64 (nm js v : Int), .int .i64 0]) ∧ Kept w w' := by
  have C := hid_of (isNodeS_calls w F p g n js h (v : Int))
  have e : (decide (0 ≤ (v : Int)) && decide ((v : Int) < (n : Int))) = true := by simp; omega
  rw [e] at C
  have c0 := h.base.c0
  have hr := rt_lt h.good hv
  obtain ⟨-, -, d2⟩ := h.base.cells (rt js v) hr
  have few := h.base.few
  have R := hid_of (fun m => root_calls (w.drewN m) F p g n js (h.kept ((Kept.refl w).drewN m)) v hv)
  have EN : Hid ((tr js (rt js v)).least = nm js v) := rfl
  rw [EN.out] at d2
  generalize nm js v = x at d2 EN ⊢
  generalize rt js v = r at d2 R hr EN
  clear h hv e EN
  go_enter Try.func55, Try.ntmps55
  go_wp2_with (go_at_call 60; refine C.out.mono ?_; rintro e w' ⟨rfl, rfl⟩)
  refine Ord.region [(0, 0), (1, 0), (2, 0), (3, 1), (4, 0), (5, 0), (6, 2), (7, 0), (8, 0), (9, 1), (10, 0), (11, 0)] (fun w' => Kept w w') (by kernel_rfl) (by kernel_rfl) (by kernel_rfl) (by kernel_rfl) (fun _ _ d _ _ h => by cases d <;> exact h) ((Kept.refl _).drewN _) ?_
  repeat
    refine Ord.step rfl (fun Ko hK => ?_)
    simp only [Ord.body]
    go_simp
    first
      | (refine hK _ _ ?_; clear hK Ko)
      | (refine ⟨(Kept.refl _).drewN _, hK _ _ ?_⟩; clear hK Ko)
      | (refine ⟨_, fun w' hS => (by have c0 := hS.cell c0; simp only [c0, Result.andThen]; rfl), hK _ _ ?_⟩; clear hK Ko)
      | (refine ⟨_, fun w' hS => (by have c0 := hS.cell d2; simp only [c0, Result.andThen]; rfl), hK _ _ ?_⟩; clear hK Ko)
      | (go_at_call 61; refine (R.out _).mono ?_; rintro e w' ⟨rfl, rfl⟩; refine ⟨(Kept.refl _).drewN _, hK _ _ ?_⟩; clear hK Ko)
  refine Ord.done ?_
  go_wp2_with fail
  go_ret2
  exact ⟨rfl, (Kept.refl w).drewN _⟩

theorem joinBad_calls (w : World) (F : Nat → Prop) (p g n : Nat) (js : List Jn) (h : SetsAt w F p g n js) (u v : Int) (hv : u < 0 ∨ (n : Int) ≤ u ∨ v < 0 ∨ (n : Int) ≤ v) :
    Calls Try.prog 34 #[.pointer (some ⟨p, 0, none⟩), .int .i64 u, .int .i64 v] w fun e w' => e = .returned (.tuple #[.bool false, .int .i64 30]) ∧ w = w' := by
  have C := hid_of (isNodeS_calls w F p g n js h u)
  have D := hid_of (isNodeS_calls w F p g n js h v)
  by_cases e1 : 0 ≤ u ∧ u < (n : Int)
  · have e : (decide (0 ≤ u) && decide (u < (n : Int))) = true := by simp; omega
    have e' : (decide (0 ≤ v) && decide (v < (n : Int))) = false := by simp; omega
    rw [e] at C
    rw [e'] at D
    clear h hv e1 e e'
    go_enter Try.func34, Try.ntmps34
    go_wp2_with (go_at_call 60; first | (refine C.out.mono ?_; rintro e w' ⟨rfl, rfl⟩; clear C) | (refine D.out.mono ?_; rintro e w' ⟨rfl, rfl⟩))
    go_ret2
    exact ⟨rfl, rfl⟩
  · have e : (decide (0 ≤ u) && decide (u < (n : Int))) = false := by simp; omega
    rw [e] at C
    clear h hv e1 e
    go_enter Try.func34, Try.ntmps34
    go_wp2_with (go_at_call 60; refine C.out.mono ?_; rintro e w' ⟨rfl, rfl⟩)
    go_ret2
    exact ⟨rfl, rfl⟩

/-- What a join of two nodes leaves: nothing, or one more in the history. -/
def joinOf (js : List Jn) (u v : Nat) : List Jn :=
  if rt js u = rt js v then js
  else if (tr js (rt js u)).size < (tr js (rt js v)).size then ⟨rt js u, rt js v, tr js (rt js v)⟩ :: js else ⟨rt js v, rt js u, tr js (rt js u)⟩ :: js

set_option maxRecDepth 100000 in
set_option maxHeartbeats 2000000 in
theorem join_calls (w : World) (F : Nat → Prop) (p g n : Nat) (js : List Jn) (h : SetsAt w F p g n js) (u v : Nat) (hu : u < n) (hv : v < n) :
    Calls Try.prog 34 #[.pointer (some ⟨p, 0, none⟩), .int .i64 (u : Int), .int .i64 (v : Int)] w fun e w' => e = .returned (.tuple #[.bool (decide (rt js u ≠ rt js v)), .int .i64 0]) ∧
      ∃ F', SetsAt w' F' p g n (joinOf js u v) ∧ Ch F w w' ∧ ∀ k, F' k → F k ∨ w.heap.size ≤ k := by
  have C := hid_of (isNodeS_calls w F p g n js h (u : Int))
  have D := hid_of (isNodeS_calls w F p g n js h (v : Int))
  have e : (decide (0 ≤ (u : Int)) && decide ((u : Int) < (n : Int))) = true := by simp; omega
  have e' : (decide (0 ≤ (v : Int)) && decide ((v : Int) < (n : Int))) = true := by simp; omega
  rw [e] at C
  rw [e'] at D
  have R1 := hid_of (root_calls w F p g n js h u hu)
  have R2 := hid_of (root_calls w F p g n js h v hv)
  have ru := rt_lt h.good hu
  have rv := rt_lt h.good hv
  have tu := rt_rt h.good u
  have tv := rt_rt h.good v
  have c0 := h.base.c0
  obtain ⟨-, a1, -⟩ := h.base.cells _ ru
  obtain ⟨-, b1, -⟩ := h.base.cells _ rv
  have few := h.base.few
  have HG := hid_of (fun m => h.kept ((Kept.refl w).drewN m))
  have H0 := hid_of h
  have HJ : Hid (joinOf js u v = if rt js u = rt js v then js else if (tr js (rt js u)).size < (tr js (rt js v)).size then ⟨rt js u, rt js v, tr js (rt js v)⟩ :: js else ⟨rt js v, rt js u, tr js (rt js u)⟩ :: js) := rfl
  generalize joinOf js u v = L at HJ ⊢
  generalize rt js u = x at *
  generalize rt js v = y at *
  have TU := hid_of tu
  have TV := hid_of tv
  clear h tu tv e e'
  by_cases exy : x = y
  · subst exy
    have HL : L = js := by have := HJ.out; rwa [if_pos rfl] at this
    subst HL
    have q : decide (x ≠ x) = false := by simp
    rw [q]
    clear HJ q
    have q2 : ((x : Int) == (x : Int)) = true := by simp
    go_enter Try.func34, Try.ntmps34
    go_wp2_with (first | (go_at_call 60; first | (refine C.out.mono ?_; rintro e w' ⟨rfl, rfl⟩; clear C) | (refine D.out.mono ?_; rintro e w' ⟨rfl, rfl⟩)) | (go_at_call 61; first | (refine R1.out.mono ?_; rintro e w' ⟨rfl, rfl⟩; clear R1) | (refine R2.out.mono ?_; rintro e w' ⟨rfl, rfl⟩)))
    go_ret2
    exact ⟨rfl, F, H0.out, Ch.refl F w, fun k hk => .inl hk⟩
  · have q : decide (x ≠ y) = true := by simp [exy]
    rw [q]
    have HL := HJ.out
    rw [if_neg exy] at HL
    have HLH := hid_of HL
    clear HJ q HL
    have q2 : ((x : Int) == (y : Int)) = false := by simp; omega
    generalize hsa : (tr js x).size = sa at a1 HLH
    generalize hsb : (tr js y).size = sb at b1 HLH
    clear hsa hsb
    go_enter Try.func34, Try.ntmps34
    go_wp2_with (first | (go_at_call 60; first | (refine C.out.mono ?_; rintro e w' ⟨rfl, rfl⟩; clear C) | (refine D.out.mono ?_; rintro e w' ⟨rfl, rfl⟩)) | (go_at_call 61; first | (refine R1.out.mono ?_; rintro e w' ⟨rfl, rfl⟩; clear R1) | (refine R2.out.mono ?_; rintro e w' ⟨rfl, rfl⟩)))
    go_quiet (fail)
    by_cases hs : sa < sb
    · have HL := HLH.out
      rw [if_pos hs] at HL
      subst HL
      have hs' : (sa : Int) < (sb : Int) := by omega
      clear HLH hs
      have X := hid_of (fun m => hang_calls (w.drewN m) F p g n js (HG.out m) x y ru rv exy TU.out TV.out)
      go_wp2_with (go_at_call 62; refine (X.out _).mono ?_; rintro e w' ⟨rfl, F', S', C', D'⟩; have SH := hid_of S'; have CH := hid_of ((Ch.of_kept ((Kept.refl w).drewN _)).trans C'); have DH := hid_of D'; clear S' C' D')
      go_ret2
      exact ⟨rfl, F', SH.out, CH.out, DH.out⟩
    · have HL := HLH.out
      rw [if_neg hs] at HL
      subst HL
      have hs' : ¬ (sa : Int) < (sb : Int) := by omega
      clear HLH hs
      have X := hid_of (fun m => hang_calls (w.drewN m) F p g n js (HG.out m) y x rv ru (Ne.symm exy) TV.out TU.out)
      go_wp2_with (go_at_call 62; refine (X.out _).mono ?_; rintro e w' ⟨rfl, F', S', C', D'⟩; have SH := hid_of S'; have CH := hid_of ((Ch.of_kept ((Kept.refl w).drewN _)).trans C'); have DH := hid_of D'; clear S' C' D')
      go_ret2
      exact ⟨rfl, F', SH.out, CH.out, DH.out⟩
end Go.Proofs.Ytipkmnhkmnajoaa
