/- The document's Names. -/
import Derived.Test.YtipkmnhkmnajoaaUnH
namespace Go.Proofs.Ytipkmnhkmnajoaa
open Go.RowKit
open Un

/-- A row of joins: two cells each. -/
structure DRow (w : World) (ao : Option Addr) (n cap : Nat) (P : List (Nat × Nat)) : Prop where
  len : n = P.length
  room : n ≤ cap
  most : cap ≤ maxLen
  cell : 0 < n → ∃ b off, ao = some ⟨b, off, none⟩ ∧ ∀ i, i < n → w.cell? ⟨b, off + i * 2, none⟩ = some (.int .i64 ((prAt P i).1 : Int)) ∧ w.cell? ⟨b, off + i * 2 + 1, none⟩ = some (.int .i64 ((prAt P i).2 : Int))

theorem DRow.kept {w w' : World} {ao : Option Addr} {n cap : Nat} {P : List (Nat × Nat)} (h : DRow w ao n cap P) (k : Kept w w') : DRow w' ao n cap P :=
  ⟨h.len, h.room, h.most, fun hn => by
    obtain ⟨b, off, e, hc⟩ := h.cell hn
    exact ⟨b, off, e, fun i hi => ⟨k.cell (hc i hi).1, k.cell (hc i hi).2⟩⟩⟩
theorem DRow.far {w w' : World} {G : Nat → Prop} {ao : Option Addr} {n cap : Nat} {P : List (Nat × Nat)} (h : DRow w ao n cap P) (c : Ch G w w') (hd : ∀ k, (Value.slice ao n cap).ownBlock = some k → ¬ G k) : DRow w' ao n cap P :=
  ⟨h.len, h.room, h.most, fun hn => by
    obtain ⟨b, off, rfl, hc⟩ := h.cell hn
    exact ⟨b, off, rfl, fun i hi => ⟨c.cell (hc i hi).1 (hd b rfl), c.cell (hc i hi).2 (hd b rfl)⟩⟩⟩

namespace Un
/-- The first n values of a function. -/
def fz (f : Nat → Nat) (n : Nat) : List Int := (List.range n).map fun x => ((f x : Nat) : Int)
theorem fz_len (f : Nat → Nat) (n : Nat) : (fz f n).length = n := by simp [fz]
theorem fz_get (f : Nat → Nat) (n i : Nat) (h : i < n) : (ivals (fz f n))[i]? = some (.int .i64 (f i : Int)) := by simp [ivals, fz, h]
theorem fz_at (f : Nat → Nat) (n i : Nat) (h : i < n) : (fz f n).getD i 0 = (f i : Int) := by simp [fz, List.getD, h]
theorem fz_set (f : Nat → Nat) (n i x : Nat) : (ivals (fz f n)).set i (.int .i64 (x : Int)) = ivals (fz (fun y => if y = i then x else f y) n) := by
  apply List.ext_getElem?
  intro m
  by_cases hm : m < n
  · by_cases e : i = m
    · subst e
      rw [List.getElem?_set_self (by simp [ivals, fz_len, hm]), fz_get _ _ _ hm]
      simp
    · rw [List.getElem?_set_ne e, fz_get _ _ _ hm, fz_get _ _ _ hm]
      simp [Ne.symm e]
  · rw [List.getElem?_eq_none (by simp [ivals, fz_len]; omega), List.getElem?_eq_none (by simp [ivals, fz_len]; omega)]
theorem fz_congr {f g : Nat → Nat} {n : Nat} (h : ∀ x, x < n → f x = g x) : fz f n = fz g n := by
  unfold fz
  apply List.map_congr_left
  intro x hx
  rw [h x (List.mem_range.1 hx)]
theorem fz_made (n : Nat) : (madeCells #[.int .i64 0] n).toList = ivals (fz (fun _ => 0) n) := by
  rw [toList_madeCells_one]
  apply List.ext_getElem?
  intro m
  by_cases hm : m < n
  · rw [fz_get _ _ _ hm]; simp [hm]
  · rw [List.getElem?_eq_none (by simp; omega), List.getElem?_eq_none (by simp [ivals, fz_len]; omega)]
theorem nmTo_fz (js : List Jn) (n : Nat) : nmTo js n = fz (nm js) n := by
  induction n with
  | zero => rfl
  | succ n ih => unfold nmTo; rw [ih]; unfold fz; rw [List.range_succ, List.map_append]; rfl
def upTo (k : Nat) : Nat → Nat := fun y => if y < k then y else 0
theorem upTo_succ (k : Nat) : (fun y => if y = k then k else upTo k y) = upTo (k + 1) := by
  funext y
  unfold upTo
  by_cases e : y = k
  · subst e; simp
  · rw [if_neg e]
    by_cases l : y < k
    · rw [if_pos l, if_pos (by omega)]
    · rw [if_neg l, if_neg (by omega)]
end Un

set_option linter.unusedSimpArgs false in
set_option maxRecDepth 100000 in
set_option maxHeartbeats 4000000 in
theorem namesR_calls (ao : Option Addr) (n m cap : Nat) (P : List (Nat × Nat)) (w : World) (h : DRow w ao m cap P) (hn : n ≤ 1024) (hm1 : m ≤ 1024) (hP : ∀ p ∈ P, p.1 < n ∧ p.2 < n) (zs : List Int) (hz : Hid (fz (rounds P (P.length + 1)) n = zs)) :
    Calls Try.prog 71 #[.agg #[.int .i64 (n : Int), .slice ao m cap]] w fun e w' => (∃ ao', e = .returned (.slice ao' n n) ∧ IRow w' ao' n n zs) ∧ Kept w w' := by
  obtain ⟨i0, hi, hz0, hz1, hz2⟩ := infoI
  have hr := h.room
  have hm := h.most
  unfold maxLen at hm
  have KG : Kept w (w.alloc (Obj.cells #[.int .i64 (n : Int), .slice ao m cap] 66)) := (Kept.refl w).alloc _
  have g0 : (w.alloc (Obj.cells #[.int .i64 (n : Int), .slice ao m cap] 66)).cell? ⟨w.heap.size, 0, none⟩ = some (.int .i64 (n : Int)) := by simp [go_sem]
  have g1 : (w.alloc (Obj.cells #[.int .i64 (n : Int), .slice ao m cap] 66)).cell? ⟨w.heap.size, 1, none⟩ = some (.slice ao m cap) := by simp [go_sem]
  have HD := hid_of (h.kept KG)
  have hl : m ≤ P.length ∧ P.length ≤ m := ⟨Nat.le_of_eq h.len, Nat.le_of_eq h.len.symm⟩
  obtain ⟨hl1, hl2⟩ := hl
  have HL := hid_of h.len
  clear h
  go_enter Try.func71, Try.ntmps71
  generalize hW : w.alloc (Obj.cells #[.int .i64 (n : Int), .slice ao m cap] 66) = W1 at KG g0 g1 HD
  have HWE := hid_of hW
  clear hW
  go_wp2_with (at_make; (rw [HWE.out]); refine wpList_make_full _ rfl _ _ 72 rfl 0 3 i0 (.int .i64 0) 1 Try.underlying72 hi hz0 hz1 .i64 .i64 _ _ n rfl rfl rfl rfl (by rw [hz2]; omega) (by unfold maxLen; omega) (Nat.zero_le _) ?_)
  intro W2 own grow
  replace own : W2.ownsRow 0 3 1 (.slice (some ⟨W1.heap.size, 0, none⟩) n n) n (ivals (fz (fun _ => 0) n)) := by rw [← fz_made]; exact own
  have K2 : Kept W1 W2 := Below.grown (Kept.refl _) grow (Nat.le_refl _) (fun k e => by simp at e)
  have HO := hid_of own
  have HK := hid_of K2
  clear own grow K2 HWE
  go_wp2_with fail
  go_loopw [4] (fun i wr => ∃ k : Nat, k ≤ n ∧ i = .int .i64 (k : Int) ∧ wr.ownsRow 0 3 1 (.slice (some ⟨W1.heap.size, 0, none⟩) n n) n (ivals (fz (upTo k) n)) ∧ Kept W1 wr) (fun i _ => n - (intOf i).toNat)
  case atStart => exact ⟨0, by omega, rfl, HO.out, HK.out⟩
  case round =>
    obtain ⟨k, hk, rfl, O, K⟩ := hrel
    have OH := hid_of O
    have KH := hid_of K
    have e0 := K.cell g0
    have e1 := K.cell g1
    by_cases hgo : (k : Int) < (n : Int)
    · have d1 := (O.cellAt k (by omega)).trans (fz_get (upTo k) n k (by omega))
      have f1 := O.frozenAt k
      clear O K HO HK
      go_wp2_with fail
      have O1 := (OH.out.stored k (.int .i64 (k : Int))).1
      rw [fz_set, upTo_succ] at O1
      have O1H := hid_of O1
      have K1H := hid_of (KH.out.setCell (p := ⟨W1.heap.size, k, none⟩) (Nat.le_refl _) (.int .i64 (k : Int)))
      clear O1 OH KH d1 f1 e0 e1
      go_roundw
      case rel => exact ⟨k + 1, by omega, by go_num, O1H.out, K1H.out⟩
      case measure => simp [intOf]; omega
    · obtain rfl : k = n := by omega
      have OB : Hid (wr.ownsRow 0 3 1 (.slice (some ⟨W1.heap.size, 0, none⟩) k k) k (ivals (fz (rounds P 0) k))) := by
        have e : fz (upTo k) k = fz (rounds P 0) k := fz_congr (fun x hx => by unfold upTo; rw [if_pos hx]; rfl)
        rw [← e]; exact OH.out
      clear O K HO HK OH
      go_wp2_with fail
      go_loopw [5] (fun i wr => ∃ r : Nat, r ≤ m + 1 ∧ i = .int .i64 (r : Int) ∧ wr.ownsRow 0 3 1 (.slice (some ⟨W1.heap.size, 0, none⟩) k k) k (ivals (fz (rounds P r) k)) ∧ Kept W1 wr) (fun i _ => m + 1 - (intOf i).toNat)
      case atStart => exact ⟨0, by omega, rfl, OB.out, KH.out⟩
      case round =>
        obtain ⟨r, hr', rfl, O, K⟩ := hrel
        have OH := hid_of O
        have KH' := hid_of K
        have e0 := K.cell g0
        have e1 := K.cell g1
        clear O K OB KH
        by_cases hgo2 : (r : Int) ≤ (m : Int)
        · have HRM := hid_of (show r ≤ m by omega)
          go_wp2_with fail
          go_loopw [6] (fun i wr => ∃ q : Nat, q ≤ m ∧ i = .int .i64 (q : Int) ∧ wr.ownsRow 0 3 1 (.slice (some ⟨W1.heap.size, 0, none⟩) k k) k (ivals (fz (sweep (rounds P r) P q) k)) ∧ Kept W1 wr) (fun i _ => m - (intOf i).toNat)
          case atStart => exact ⟨0, by omega, rfl, OH.out, KH'.out⟩
          case round =>
            obtain ⟨q, hq, rfl, O, K⟩ := hrel
            have OH2 := hid_of O
            have KH2 := hid_of K
            have e2 := K.cell g1
            clear e1 e0 O K
            by_cases hgo3 : (q : Int) < (m : Int)
            · obtain ⟨b, off, rfl, hc⟩ := HD.out.cell (by omega)
              obtain ⟨c1, c2⟩ := hc q (by omega)
              have d1 := KH2.out.cell c1
              have d2 := KH2.out.cell c2
              obtain ⟨l1, l2⟩ := hP _ (prAt_mem (P := P) (k := q) (by omega))
              have SW : Hid (sweep (rounds P r) P (q + 1) = relax (sweep (rounds P r) P q) (prAt P q).1 (prAt P q).2) := rfl
              generalize hS : sweep (rounds P r) P (q + 1) = f' at SW
              have ES := hid_of hS
              clear hS hc c1 c2
              generalize sweep (rounds P r) P q = f at OH2 SW
              generalize hx : (prAt P q).1 = x at d1 l1 SW
              generalize hy : (prAt P q).2 = y at d2 l2 SW
              clear hx hy
              have OA := hid_of (OH2.out.alloc (Obj.cells #[.int .i64 (x : Int), .int .i64 (y : Int)] 125))
              have KA := hid_of (KH2.out.alloc (Obj.cells #[.int .i64 (x : Int), .int .i64 (y : Int)] 125))
              have p0 : (wr.alloc (Obj.cells #[.int .i64 (x : Int), .int .i64 (y : Int)] 125)).cell? ⟨wr.heap.size, 0, none⟩ = some (.int .i64 (x : Int)) := by simp [go_sem]
              have p1 : (wr.alloc (Obj.cells #[.int .i64 (x : Int), .int .i64 (y : Int)] 125)).cell? ⟨wr.heap.size, 1, none⟩ = some (.int .i64 (y : Int)) := by simp [go_sem]
              clear OH2 KH2
              go_wp2_with fail
              generalize wr.alloc (Obj.cells #[.int .i64 (x : Int), .int .i64 (y : Int)] 125) = W3 at OA KA p0 p1 ⊢
              have x1 := (OA.out.cellAt x (by omega)).trans (fz_get f k x l1)
              have y1 := (OA.out.cellAt y (by omega)).trans (fz_get f k y l2)
              have lx : (x : Int) < (k : Int) := by omega
              have ly : (y : Int) < (k : Int) := by omega
              clear d1 d2 e2
              go_quiet (fail)
              have KD : Kept W3 (W3.drewN nq) := (Kept.refl W3).drewN nq
              replace OA := hid_of (ownsK OA.out KD)
              replace KA := hid_of (KA.out.trans KD)
              replace p0 := KD.cell p0
              replace p1 := KD.cell p1
              replace x1 := KD.cell x1
              replace y1 := KD.cell y1
              by_cases hlt : f x < f y
              · have hlt' : (f x : Int) < (f y : Int) := by omega
                have fy := OA.out.frozenAt y
                go_wp2_with fail
                generalize W3.drewN nq = W4 at OA KA p0 p1 x1 y1 fy ⊢
                refine Ord.regionZ 9 [(0, 0), (1, 0), (2, 1), (3, 0), (4, 0), (5, 1), (6, 0), (7, 1), (8, 0), (9, 3)] (fun w' => Kept W4 w') (by kernel_rfl) (by kernel_rfl) (by kernel_rfl) (by kernel_rfl) (fun _ _ d _ _ h => by cases d <;> exact h) ((Kept.refl _).drewN _) ?_
                repeat
                  refine Ord.stepZ rfl (fun Ko hK => ?_)
                  simp only [Ord.bodyZ, Ord.body]
                  go_simp
                  first
                    | (refine hK _ _ ?_; clear hK Ko)
                    | (refine ⟨(Kept.refl _).drewN _, hK _ _ ?_⟩; clear hK Ko)
                    | (refine ⟨_, fun w' hS => (by have c0 := hS.cell p0; simp only [c0, Result.andThen]; rfl), hK _ _ ?_⟩; clear hK Ko)
                    | (refine ⟨_, fun w' hS => (by have c0 := hS.cell p1; simp only [c0, Result.andThen]; rfl), hK _ _ ?_⟩; clear hK Ko)
                    | (refine ⟨_, fun w' hS => (by have c0 := hS.cell x1; simp only [c0, Result.andThen]; rfl), hK _ _ ?_⟩; clear hK Ko)
                    | (refine ⟨_, fun w' hS => (by have c0 := hS.cell y1; simp only [c0, Result.andThen]; rfl), hK _ _ ?_⟩; clear hK Ko)
                refine Ord.doneZ ?_
                have O5 := ((ownsK OA.out ((Kept.refl W4).drewN 1)).stored y (.int .i64 (f x : Int))).1
                rw [fz_set] at O5
                have E5 : f' = (fun z => if z = y then f x else f z) := by have := SW.out; unfold relax at this; rwa [if_pos hlt] at this
                rw [← E5] at O5
                have O5H := hid_of O5
                have K5H := hid_of ((KA.out.drewN 1).setCell (p := ⟨W1.heap.size, y, none⟩) (Nat.le_refl _) (.int .i64 (f x : Int)))
                clear O5 E5 OA KA SW p0 p1 x1 y1
                go_wp2_with fail
                go_roundw
                case rel => exact ⟨q + 1, by omega, by go_num, by rw [ES.out]; exact O5H.out, K5H.out⟩
                case measure => simp [intOf]; omega
              · have hlt' : ¬ (f x : Int) < (f y : Int) := by omega
                have fy := OA.out.frozenAt x
                go_wp2_with fail
                generalize W3.drewN nq = W4 at OA KA p0 p1 x1 y1 fy ⊢
                refine Ord.regionZ 9 [(0, 0), (1, 0), (2, 1), (3, 0), (4, 0), (5, 1), (6, 0), (7, 1), (8, 0), (9, 3)] (fun w' => Kept W4 w') (by kernel_rfl) (by kernel_rfl) (by kernel_rfl) (by kernel_rfl) (fun _ _ d _ _ h => by cases d <;> exact h) ((Kept.refl _).drewN _) ?_
                repeat
                  refine Ord.stepZ rfl (fun Ko hK => ?_)
                  simp only [Ord.bodyZ, Ord.body]
                  go_simp
                  first
                    | (refine hK _ _ ?_; clear hK Ko)
                    | (refine ⟨(Kept.refl _).drewN _, hK _ _ ?_⟩; clear hK Ko)
                    | (refine ⟨_, fun w' hS => (by have c0 := hS.cell p0; simp only [c0, Result.andThen]; rfl), hK _ _ ?_⟩; clear hK Ko)
                    | (refine ⟨_, fun w' hS => (by have c0 := hS.cell p1; simp only [c0, Result.andThen]; rfl), hK _ _ ?_⟩; clear hK Ko)
                    | (refine ⟨_, fun w' hS => (by have c0 := hS.cell x1; simp only [c0, Result.andThen]; rfl), hK _ _ ?_⟩; clear hK Ko)
                    | (refine ⟨_, fun w' hS => (by have c0 := hS.cell y1; simp only [c0, Result.andThen]; rfl), hK _ _ ?_⟩; clear hK Ko)
                refine Ord.doneZ ?_
                have O5 := ((ownsK OA.out ((Kept.refl W4).drewN 1)).stored x (.int .i64 (f y : Int))).1
                rw [fz_set] at O5
                have E5 : f' = (fun z => if z = x then f y else f z) := by have := SW.out; unfold relax at this; rwa [if_neg hlt] at this
                rw [← E5] at O5
                have O5H := hid_of O5
                have K5H := hid_of ((KA.out.drewN 1).setCell (p := ⟨W1.heap.size, x, none⟩) (Nat.le_refl _) (.int .i64 (f y : Int)))
                clear O5 E5 OA KA SW p0 p1 x1 y1
                go_wp2_with fail
                go_roundw
                case rel => exact ⟨q + 1, by omega, by go_num, by rw [ES.out]; exact O5H.out, K5H.out⟩
                case measure => simp [intOf]; omega
            · obtain rfl : q = m := by omega
              have OB : Hid (wr.ownsRow 0 3 1 (.slice (some ⟨W1.heap.size, 0, none⟩) k k) k (ivals (fz (rounds P (r + 1)) k))) := by
                have e : rounds P (r + 1) = sweep (rounds P r) P P.length := rfl
                rw [e, ← HL.out]; exact OH2.out
              clear OH2
              go_wp2_with fail
              go_roundw
              case rel => exact ⟨r + 1, by have := HRM.out; omega, by go_num, OB.out, KH2.out⟩
              case measure => have := HRM.out; simp [intOf]; omega
        · obtain rfl : r = m + 1 := by omega
          have OB : Hid (wr.ownsRow 0 3 1 (.slice (some ⟨W1.heap.size, 0, none⟩) k k) k (ivals zs)) := by
            rw [← hz.out, ← HL.out]; exact OH.out
          have J := hid_of (IRow.of_owns OB.out)
          clear OH OB
          go_wp2_with fail
          refine bodyPost_ret (v := .slice (some ⟨W1.heap.size, 0, none⟩) k k) (by simp [results, Try.results71, go_sem]) rfl ?_
          exact ⟨⟨_, rfl, J.out⟩, KG.trans KH'.out⟩
end Go.Proofs.Ytipkmnhkmnajoaa
