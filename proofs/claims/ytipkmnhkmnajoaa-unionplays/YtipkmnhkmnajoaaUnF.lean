/- Members; the law's names and awake. -/
import Derived.Test.YtipkmnhkmnajoaaIntsU
namespace Go.Proofs.Ytipkmnhkmnajoaa
open Go.RowKit
open Un

namespace Un
/-- The nodes below k with a root, rising. -/
def memTo (js : List Jn) (r : Nat) : Nat → List Int
  | 0 => []
  | k + 1 => if rt js k = r then memTo js r k ++ [(k : Int)] else memTo js r k
theorem memTo_len (js : List Jn) (r k : Nat) : (memTo js r k).length = cnt js r k := by
  induction k with
  | zero => rfl
  | succ k ih =>
    unfold memTo cnt
    split
    · rw [List.length_append, ih]; rfl
    · rw [ih]; rfl
/-- The names of the first k nodes. -/
def nmTo (js : List Jn) : Nat → List Int
  | 0 => []
  | k + 1 => nmTo js k ++ [(nm js k : Int)]
theorem nmTo_len (js : List Jn) (k : Nat) : (nmTo js k).length = k := by
  induction k with
  | zero => rfl
  | succ k ih => unfold nmTo; rw [List.length_append, ih]; rfl
theorem nmTo_get (js : List Jn) (n : Nat) : ∀ i, i < n → (nmTo js n).getD i 0 = (nm js i : Int) := by
  induction n with
  | zero => intro i hi; omega
  | succ n ih =>
    intro i hi
    unfold nmTo
    by_cases e : i = n
    · subst e
      have := nmTo_len js i
      simp [List.getD, this]
    · rw [← ih i (by omega)]
      simp [List.getD, List.getElem?_append_left, nmTo_len, show i < n by omega]
theorem nmTo_same {js ks : List Jn} (k : Nat) (h : ∀ v, v < k → nm js v = nm ks v) : nmTo js k = nmTo ks k := by
  induction k with
  | zero => rfl
  | succ k ih => unfold nmTo; rw [ih (fun v hv => h v (by omega)), h k (by omega)]
end Un

theorem ownsK {w w' : World} {base e size n : Nat} {v : Value} {xs : List Value} (h : w.ownsRow base e size v n xs) (K : Kept w w') : w'.ownsRow base e size v n xs := (Ch.of_kept (F := fun _ => False) K).owns h (fun _ _ t => t)

theorem membersBad_calls (w : World) (F : Nat → Prop) (p g n : Nat) (js : List Jn) (h : SetsAt w F p g n js) (v : Int) (hv : v < 0 ∨ (n : Int) ≤ v) :
    Calls Try.prog 37 #[.pointer (some ⟨p, 0, none⟩), .int .i64 v] w fun e w' => e = .returned (.tuple #[.slice none 0 0, .int .i64 30]) ∧ w = w' := by
  have C := hid_of (isNodeS_calls w F p g n js h v)
  have e : (decide (0 ≤ v) && decide (v < (n : Int))) = false := by simp; omega
  rw [e] at C
  clear h hv
  go_enter Try.func37, Try.ntmps37
  go_wp2_with (go_at_call 60; refine C.out.mono ?_; rintro e w' ⟨rfl, rfl⟩)
  go_ret2
  exact ⟨rfl, rfl⟩

set_option maxRecDepth 100000 in
set_option maxHeartbeats 2000000 in
theorem members_calls (w : World) (F : Nat → Prop) (p g n : Nat) (js : List Jn) (h : SetsAt w F p g n js) (v : Nat) (hv : v < n) (zs : List Int) (hz : Hid (memTo js (rt js v) n = zs)) :
    Calls Try.prog 37 #[.pointer (some ⟨p, 0, none⟩), .int .i64 (v : Int)] w fun e w' => (∃ ao cap, e = .returned (.tuple #[.slice ao zs.length cap, .int .i64 0]) ∧ IRow w' ao zs.length cap zs) ∧ Kept w w' := by
  obtain ⟨i0, hi, hz0, hz1, hz2⟩ := infoI
  have C := hid_of (isNodeS_calls w F p g n js h (v : Int))
  have e : (decide (0 ≤ (v : Int)) && decide ((v : Int) < (n : Int))) = true := by simp; omega
  rw [e] at C
  have R := hid_of (root_calls w F p g n js h v hv)
  have few := h.base.few
  have hr := rt_lt h.good hv
  have hs := size_root h.good hr (rt_rt h.good v)
  have hc := cnt_le js (rt js v) n
  have c0 := h.base.c0
  obtain ⟨-, d1, -⟩ := h.base.cells _ hr
  have HS := hid_of h
  generalize hx : rt js v = r at *
  clear hx h e
  generalize (tr js r).size = sz at *
  have hsz : sz ≤ 1024 := by omega
  clear hs hc
  go_enter Try.func37, Try.ntmps37
  go_wp2_with (first | (go_at_call 60; refine C.out.mono ?_; rintro e w' ⟨rfl, rfl⟩) | (go_at_call 61; refine R.out.mono ?_; rintro e w' ⟨rfl, rfl⟩) | (at_make; refine wpList_make_own _ rfl _ _ 72 rfl w.heap.size 3 i0 (.int .i64 0) 1 Try.underlying72 hi hz0 hz1 .i64 .i64 _ sz rfl rfl rfl (by rw [hz2]; omega) (by unfold maxLen; omega) (Nat.le_refl _) ?_))
  intro W1 own grow
  have K1 : Kept w W1 := Below.grown (Kept.refl _) grow (Nat.le_refl _) (fun k e => by simp at e)
  have HO := hid_of own
  have HK := hid_of K1
  have c1 := K1.cell c0
  clear own grow K1 C R
  go_wp2_with fail
  go_loopw [7, 30] (fun m i wr => ∃ k : Nat, k ≤ n ∧ i = .int .i64 (k : Int) ∧ wr.ownsRow w.heap.size 3 1 m (memTo js r k).length (ivals (memTo js r k)) ∧ Kept w wr) (fun _ i _ => n - (intOf i).toNat)
  case atStart => exact ⟨0, by omega, rfl, HO.out, HK.out⟩
  case round =>
    obtain ⟨k, hk, rfl, O, K⟩ := hrel
    have KH := hid_of K
    have OH := hid_of O
    have hw := K.size
    clear O K HO HK c1 d1
    by_cases hgo : (k : Int) < (n : Int)
    · have R := hid_of (root_calls _ F p g n js (HS.out.kept KH.out) k (by omega))
      have ML := memTo_len js r k
      have ML2 := cnt_le js r k
      have l1 : (memTo js r k).length ≤ 1024 := by omega
      have E1 : Hid (memTo js r (k + 1) = if rt js k = r then memTo js r k ++ [(k : Int)] else memTo js r k) := rfl
      generalize hL' : memTo js r (k + 1) = L' at E1
      have EL' := hid_of hL'
      clear hL'
      generalize memTo js r k = L at OH l1 E1
      generalize rt js k = x at R E1
      clear ML ML2
      by_cases ex : x = r
      · have q : ((x : Int) == (r : Int)) = true := by simp [ex]
        have E2 := E1.out
        rw [if_pos ex] at E2
        have E2H := hid_of E2
        clear E1 E2 ex
        have NW := hid_of (cell_newi wr 3 (.int .i64 (k : Int)))
        have B1 : Hid (L.length + 1 ≤ maxLen) := by show L.length + 1 ≤ maxLen; unfold maxLen; omega
        have B2 : Hid ((L.length + 1) * 8 ≤ 140737488355328) := by show (L.length + 1) * 8 ≤ 140737488355328; omega
        have HM := hid_of (OH.out.alloc (Obj.cells #[.int .i64 (k : Int)] 3))
        go_wp2_with (first | (go_at_call 61; refine R.out.mono ?_; rintro e w' ⟨rfl, rfl⟩) | (at_builtin; refine wpList_append_own_at _ rfl _ _ 72 rfl w.heap.size 3 i0 _ 1 8 Try.underlying72 hi hz0 hz1 hz2 rfl (by decide) _ _ _ rfl HM.out ⟨wr.heap.size, 0, none⟩ 1 1 [.int .i64 (k : Int)] rfl rfl NW.out (by intro u hu; simp at hu; subst hu; rfl) B1.out B2.out (by simp; omega) ?_))
        intro v' w1 own grow _ ha
        have KN := hid_of (Below.grown (KH.out.alloc _) grow (KH.out.alloc _).size (fun j hj => (OH.out.lt j hj).1))
        rw [ivals_snoc, ← E2H.out] at own
        have ON : Hid (w1.ownsRow w.heap.size 3 1 v' L'.length (ivals L')) := by
          have e : L'.length = L.length + 1 := by rw [E2H.out]; simp
          rw [e]; exact own
        clear own grow ha HM NW B1 B2 OH KH
        go_wp2_with fail
        go_roundw
        case rel => exact ⟨k + 1, by omega, by go_num, by rw [EL'.out]; exact ON.out, KN.out⟩
        case measure => simp [intOf]; omega
      · have q : ((x : Int) == (r : Int)) = false := by simp; omega
        have E2 := E1.out
        rw [if_neg ex] at E2
        subst E2
        clear E1 ex
        go_wp2_with (go_at_call 61; refine R.out.mono ?_; rintro e w' ⟨rfl, rfl⟩)
        go_roundw
        case rel => exact ⟨k + 1, by omega, by go_num, by rw [EL'.out]; exact OH.out, KH.out⟩
        case measure => simp [intOf]; omega
    · obtain rfl : k = n := by omega
      rw [hz.out] at OH
      obtain ⟨ao, cap, rfl⟩ := owns_slice1i OH.out
      have J := hid_of (IRow.of_owns OH.out)
      clear OH
      go_wp2_with fail
      refine bodyPost_ret (v := .tuple #[.slice ao zs.length cap, .int .i64 0]) (by simp [results, Try.results37, go_sem]) rfl ?_
      exact ⟨⟨_, _, rfl, J.out⟩, KH.out⟩

set_option maxRecDepth 100000 in
set_option maxHeartbeats 2000000 in
theorem names_calls (w : World) (F : Nat → Prop) (p g n : Nat) (js : List Jn) (h : SetsAt w F p g n js) :
    Calls Try.prog 33 #[.pointer (some ⟨p, 0, none⟩), .int .i64 (n : Int)] w fun e w' => (∃ ao cap, e = .returned (.slice ao n cap) ∧ IRow w' ao n cap (nmTo js n) ∧ ∀ k, (Value.slice ao n cap).ownBlock = some k → w.heap.size ≤ k) ∧ Kept w w' := by
  obtain ⟨i0, hi, hz0, hz1, hz2⟩ := infoI
  have few := h.base.few
  have HS := hid_of h
  clear h
  go_enter Try.func33, Try.ntmps33
  go_wp2_with fail
  go_loopw [5, 6] (fun m i wr => ∃ k : Nat, k ≤ n ∧ i = .int .i64 (k : Int) ∧ wr.ownsRow w.heap.size 3 1 m k (ivals (nmTo js k)) ∧ Kept w wr) (fun _ i _ => n - (intOf i).toNat)
  case atStart => exact ⟨0, by omega, rfl, World.ownsRow_nil _ _ _ _, Kept.refl _⟩
  case round =>
    obtain ⟨k, hk, rfl, O, K⟩ := hrel
    have KH := hid_of K
    have OH := hid_of O
    have hw := K.size
    clear O K
    by_cases hgo : (k : Int) < (n : Int)
    · have R := hid_of (find_calls _ F p g n js (HS.out.kept KH.out) k (by omega))
      have E1 : Hid (nmTo js (k + 1) = nmTo js k ++ [(nm js k : Int)]) := rfl
      generalize hL' : nmTo js (k + 1) = L' at E1
      have EL' := hid_of hL'
      clear hL'
      generalize nmTo js k = L at OH E1
      generalize nm js k = x at R E1
      have B1 : Hid (k + 1 ≤ maxLen) := by show k + 1 ≤ maxLen; unfold maxLen; omega
      have B2 : Hid ((k + 1) * 8 ≤ 140737488355328) := by show (k + 1) * 8 ≤ 140737488355328; omega
      go_wp2_with (first | (go_at_call 55; refine R.out.mono ?_; rintro e wf ⟨rfl, K2⟩; have KF := hid_of (KH.out.trans K2); have OF := hid_of (ownsK OH.out K2); have hw2 := KF.out.size; have NW := hid_of (cell_newi wf 3 (.int .i64 (x : Int))); have HM := hid_of (OF.out.alloc (Obj.cells #[.int .i64 (x : Int)] 3)); clear K2) | (at_builtin; refine wpList_append_own_at _ rfl _ _ 72 rfl w.heap.size 3 i0 _ 1 8 Try.underlying72 hi hz0 hz1 hz2 rfl (by decide) _ _ _ rfl HM.out ⟨wf.heap.size, 0, none⟩ 1 1 [.int .i64 (x : Int)] rfl rfl NW.out (by intro u hu; simp at hu; subst hu; rfl) B1.out B2.out (by simp; omega) ?_))
      intro v' w1 own grow _ ha
      have KN := hid_of (Below.grown (KF.out.alloc _) grow (KF.out.alloc _).size (fun j hj => (OF.out.lt j hj).1))
      rw [ivals_snoc, ← E1.out] at own
      have ON := hid_of own
      clear own grow ha HM NW B1 B2 OH KH
      go_wp2_with fail
      go_roundw
      case rel => exact ⟨k + 1, by omega, by go_num, by rw [EL'.out]; exact ON.out, KN.out⟩
      case measure => simp [intOf]; omega
    · obtain rfl : k = n := by omega
      obtain ⟨ao, cap, rfl⟩ := owns_slice1i OH.out
      have J := hid_of (IRow.of_owns OH.out)
      have LT := hid_of (fun x e => (OH.out.lt x e).1)
      clear OH
      go_wp2_with fail
      refine bodyPost_ret (v := .slice ao k cap) (by simp [results, Try.results33, go_sem]) rfl ?_
      exact ⟨⟨_, _, rfl, J.out, LT.out⟩, KH.out⟩

set_option maxRecDepth 100000 in
set_option maxHeartbeats 2000000 in
theorem awakeU_calls (w : World) : Calls Try.prog 27 #[] w fun e w' => e = .returned (.bool true) ∧ Kept w w' := by
  have C := hid_of (new_calls 3 w (by omega))
  have hnot : ∀ (x : Bool) (w : World), (Op.unary .not (.bool x)).run Try.prog w = .ok (.bool (!x)) w := fun _ _ => rfl
  go_enter Try.func27, Try.ntmps27
  go_wp2_with fail
  refine C.out.mono ?_
  rintro e w1 ⟨F, p, rfl, ⟨g, S1⟩, K1, L1⟩
  have J := hid_of (join_calls w1 F p g 3 [] S1 2 1 (by omega) (by omega))
  have KH := hid_of K1
  have LH := hid_of L1
  have EJ : joinOf [] 2 1 = [⟨1, 2, ⟨2, 1, 2⟩⟩] := rfl
  rw [EJ] at J
  have E2 : decide (rt [] 2 ≠ rt [] 1) = true := rfl
  rw [E2] at J
  clear C K1 L1 S1 EJ E2
  go_wp2_with fail
  refine J.out.mono ?_
  rintro e w2 ⟨rfl, F2, S2, C2, L2⟩
  have K2 := hid_of (KH.out.ch C2 LH.out)
  have L2H : Hid (∀ k, F2 k → w.heap.size ≤ k) := fun k hk => by rcases L2 k hk with t | t; exact LH.out k t; exact Nat.le_trans KH.out.size t
  have X := hid_of (find_calls w2 F2 p g 3 _ S2 2 (by omega))
  have S2H := hid_of S2
  have E3 : nm [⟨1, 2, ⟨2, 1, 2⟩⟩] 2 = 1 := rfl
  rw [E3] at X
  clear J S2 C2 L2 KH LH E3
  go_wp2_with fail
  refine X.out.mono ?_
  rintro e w3 ⟨rfl, K3⟩
  have S3 := hid_of (S2H.out.kept K3)
  have KH3 := hid_of (K2.out.trans K3)
  have CC := hid_of (count_calls w3 F2 p g 3 _ S3.out)
  clear K3 K2 S2H X
  have e4 : ((3 : Nat) : Int) - (([⟨1, 2, ⟨2, 1, 2⟩⟩] : List Jn).length : Int) = 2 := rfl
  rw [e4] at CC
  clear e4
  go_wp2_with (go_at_call 32; refine CC.out.mono ?_; rintro e w4 ⟨rfl, K4⟩; have S4 := hid_of (S3.out.kept K4); have KH4 := hid_of (KH3.out.trans K4); have U := hid_of (undo_calls w4 F2 p g 3 _ _ S4.out); clear K4 CC S3 KH3)
  refine U.out.mono ?_
  rintro e w5 ⟨rfl, S5, C5⟩
  have K5 := hid_of (KH4.out.ch C5 L2H.out)
  have Y := hid_of (find_calls w5 F2 p g 3 _ S5 2 (by omega))
  have S5H := hid_of S5
  have E6 : nm [] 2 = 2 := rfl
  rw [E6] at Y
  clear E6 S5 C5 KH4 S4 U L2H
  go_wp2_with fail
  refine Y.out.mono ?_
  rintro e w6 ⟨rfl, K6⟩
  have CC := hid_of (count_calls w6 F2 p g 3 _ (S5H.out.kept K6))
  have e4 : ((3 : Nat) : Int) - (([] : List Jn).length : Int) = 3 := rfl
  rw [e4] at CC
  have KH6 := hid_of (K5.out.trans K6)
  clear e4 K6 K5 S5H Y
  go_wp2_with (go_at_call 32; refine CC.out.mono ?_; rintro e w7 ⟨rfl, K7⟩)
  go_ret
  exact ⟨rfl, KH6.out.trans K7⟩
end Go.Proofs.Ytipkmnhkmnajoaa
