/- A list of so many -1: bits.Mul, slices.Repeat, unset. -/
import Derived.Test.YtjheiaegpoppaaaIntsW
import Derived.Lib.Mul64
import Derived.Laws.MathBits
import Derived.Laws.IdiomCopy
import Derived.Deep.OwnRows
import Derived.Deep.DeepCutAuto
import Derived.Deep.CutBlock
import Derived.Deep.RegionLaw
namespace Go.Proofs.Ytjheiaegpoppaaa
open Go.RowKit

theorem half32 (z : Nat) (h : z < 18446744073709551616) : bits .and .u64 (z : Int) 4294967295 = ((z % 4294967296 : Nat) : Int) := by
  have := u64_and_nat z 4294967295 h (by omega)
  rw [show ((4294967295 : Nat) : Int) = 4294967295 from rfl] at this
  rw [this, Nat.and_two_pow_sub_one_eq_mod z 32]
theorem div32 (z : Nat) : (z : Int) / 4294967296 = ((z / 4294967296 : Nat) : Int) := by omega
theorem nmul (a b : Nat) : (a : Int) * (b : Int) = ((a * b : Nat) : Int) := (Int.natCast_mul a b).symm
theorem nadd (a b : Nat) : (a : Int) + (b : Int) = ((a + b : Nat) : Int) := (Int.natCast_add a b).symm
theorem nwrap (a : Nat) (h : a < 18446744073709551616) : IntKind.u64.wrap (a : Int) = (a : Int) := by rw [IntKind.wrap_u64]; omega
theorem nwrapm (a : Nat) : IntKind.u64.wrap (a : Int) = ((a % 18446744073709551616 : Nat) : Int) := by rw [IntKind.wrap_u64]; omega

set_option maxHeartbeats 1000000 in
theorem mul64_calls (x y : Nat) (hx : x < 18446744073709551616) (hy : y < 18446744073709551616) (w : World) :
    Calls Try.prog 69 #[.int .u64 (x : Int), .int .u64 (y : Int)] w fun e w' => e = .returned (.tuple #[.int .u64 ((x * y / 18446744073709551616 : Nat) : Int), .int .u64 ((x * y % 18446744073709551616 : Nat) : Int)]) ∧ w = w' := by
  obtain ⟨bd, bt, bw, hhi⟩ := Lib.mul64_hi x y hx hy
  have ba := Lib.half_mul_le (a := x / 4294967296) (b := y / 4294967296) (by omega) (by omega)
  have bb := Lib.half_mul_le (a := x / 4294967296) (b := y % 4294967296) (by omega) (by omega)
  have bc := Lib.half_mul_le (a := x % 4294967296) (b := y / 4294967296) (by omega) (by omega)
  have q1 : x / 4294967296 * (y / 4294967296) < 18446744073709551616 := by omega
  have q2 : x / 4294967296 * (y % 4294967296) < 18446744073709551616 := by omega
  have q3 : x % 4294967296 * (y / 4294967296) < 18446744073709551616 := by omega
  have q4 : x / 4294967296 * (y / 4294967296) + (x / 4294967296 * (y % 4294967296) + x % 4294967296 * (y % 4294967296) / 4294967296) / 4294967296 < 18446744073709551616 := by omega
  have q5 : x / 4294967296 * (y / 4294967296) + (x / 4294967296 * (y % 4294967296) + x % 4294967296 * (y % 4294967296) / 4294967296) / 4294967296 + ((x / 4294967296 * (y % 4294967296) + x % 4294967296 * (y % 4294967296) / 4294967296) % 4294967296 + x % 4294967296 * (y / 4294967296)) / 4294967296 < 18446744073709551616 := by omega
  go_enter Try.func69, Try.ntmps69
  go_wp2
  simp only [half32 x hx, half32 y hy, div32, nmul, nadd, nwrap _ bd, nwrap _ q2, nwrap _ bt, half32 _ bt, nwrap _ q3, nwrap _ bw, nwrap _ q1, nwrap _ q4, nwrap _ q5, nwrapm (x * y)]
  rw [hhi]
  go_ret2
  exact ⟨rfl, rfl⟩

set_option maxHeartbeats 1000000 in
theorem mul_calls (n : Nat) (hn : n ≤ 1024) (w : World) :
    Calls Try.prog 57 #[.int .u64 1, .int .u64 (n : Int)] w fun e w' => e = .returned (.tuple #[.int .u64 0, .int .u64 (n : Int)]) ∧ w = w' := by
  have C := hid_of (fun w => mul64_calls 1 n (by omega) (by omega) w)
  have e1 : 1 * n / 18446744073709551616 = 0 := by omega
  have e2 : 1 * n % 18446744073709551616 = n := by omega
  rw [e1, e2] at C
  go_enter Try.func57, Try.ntmps57
  go_wp2_with (go_at_call 69; refine (C.out _).mono ?_; rintro v w' ⟨rfl, rfl⟩)
  go_ret2
  exact ⟨rfl, rfl⟩

/-- What a row holds behind a run of equal stores. -/
theorem rowIs_setCells {b t n : Nat} (u : Value) (k : Nat) : ∀ (w : World) (o : Nat) (f : Nat → Value), w.rowIs b t n f → (w.setCells b o (List.replicate k u)).rowIs b t n (fun i => if o ≤ i ∧ i < o + k then u else f i) := by
  induction k with
  | zero => intro w o f h; exact h.congr (fun i _ => by rw [if_neg (by omega)])
  | succ k ih =>
    intro w o f h
    rw [List.replicate_succ]
    refine (ih _ (o + 1) _ (h.set o u)).congr (fun i hi => ?_)
    by_cases h1 : i = o
    · subst h1
      rw [if_neg (by omega), if_pos rfl, if_pos (by omega)]
    · by_cases h2 : o ≤ i ∧ i < o + (k + 1)
      · rw [if_pos (by omega), if_pos h2]
      · rw [if_neg (by omega), if_neg h2, if_neg h1]

theorem kept_setCells {a : World} {b : Nat} (hb : a.heap.size ≤ b) (vs : List Value) : ∀ (w : World) (o : Nat), Kept a w → Kept a (w.setCells b o vs) := by
  induction vs with
  | nil => intro w o h; exact h
  | cons v vs ih => intro w o h; exact ih _ _ (h.setCell hb v)

/-- A list of int as long as its block, its numbers by the index. -/
def IntsAt (w : World) (g n : Nat) (f : Nat → Int) : Prop := w.rowIs g 3 n (fun i => .int .i64 (f i))

theorem IntsAt.kept {w w' : World} {g n : Nat} {f : Nat → Int} (h : IntsAt w g n f) (K : Kept w w') : IntsAt w' g n f := h.of_block (K.block g h.lt)
theorem IntsAt.ch {F : Nat → Prop} {w w' : World} {g n : Nat} {f : Nat → Int} (h : IntsAt w g n f) (C : Ch F w w') (hF : ¬ F g) : IntsAt w' g n f := h.of_block (C.block g h.lt hF)
theorem IntsAt.cell {w : World} {g n : Nat} {f : Nat → Int} (h : IntsAt w g n f) {i : Nat} (hi : i < n) : w.cell? ⟨g, i, none⟩ = some (.int .i64 (f i)) := World.rowIs.cell h hi
theorem IntsAt.set {w : World} {g n : Nat} {f : Nat → Int} (h : IntsAt w g n f) (i : Nat) (z : Int) : IntsAt (w.setCell ⟨g, i, none⟩ (.int .i64 z)) g n (fun j => if j = i then z else f j) :=
  (World.rowIs.set h i (.int .i64 z)).congr (fun j _ => by by_cases e : j = i <;> simp [e])

set_option maxRecDepth 100000 in
set_option maxHeartbeats 2000000 in
theorem repeat_calls (n : Nat) (hn : n ≤ 1024) (b off c : Nat) (w : World) (hx : w.cell? ⟨b, off, none⟩ = some (.int .i64 (-1))) :
    Calls Try.prog 47 #[.slice (some ⟨b, off, none⟩) 1 c, .int .i64 (n : Int)] w fun r w' => r = .returned (.slice (some ⟨w.heap.size, 0, none⟩) n n) ∧ IntsAt w' w.heap.size n (fun _ => -1) ∧ Kept w w' := by
  have hmk : ∀ w : World, (Instr.makeSlice 26 (.int .i64 (n : Int)) (.int .i64 (n : Int))).run Try.prog w = .ok (.slice (some ⟨w.heap.size, 0, none⟩) n n) (w.alloc (.cells (madeCells #[.int .i64 0] n) 3)) :=
    fun w => run_make_row' 26 3 (.int .i64 0) 8 Try.underlying26 infoJ0 rfl .i64 .i64 n (by omega) (by omega) w
  have hsz : (Try.prog.info? 3).map (·.size) = some 1 := by kernel_rfl
  have KM : Kept w (w.alloc (.cells (madeCells #[.int .i64 0] n) 3)) := (Kept.refl w).alloc _
  have R0 : (w.alloc (.cells (madeCells #[.int .i64 0] n) 3)).rowIs w.heap.size 3 n (fun _ => .int .i64 0) := World.rowIs_made w _ n _
  by_cases h0 : n = 0
  · subst h0
    have hcp : ∀ (w : World) (ty : TypeId) (a : Option Addr), (Builtin.copy_ #[26, 26] ty #[.slice a 0 0, .slice (some ⟨b, off, none⟩) 1 c]).run Try.prog w = .ok (goInt 0) w := fun w ty a => run_copy_none w _ _ _ 3 _ _ _ _ _ _ Try.underlying26 hsz (by simp)
    have RH : Hid (IntsAt (w.alloc (.cells (madeCells #[.int .i64 0] 0) 3)) w.heap.size 0 (fun _ => -1)) := R0.congr (fun i hi => by omega)
    clear R0
    go_enter Try.func47, Try.ntmps47
    have hmk0 : ∀ w : World, (Instr.makeSlice 26 (.int .i64 0) (.int .i64 0)).run Try.prog w = .ok (.slice (some ⟨w.heap.size, 0, none⟩) 0 0) (w.alloc (.cells (madeCells #[.int .i64 0] 0) 3)) := hmk
    clear hmk
    have hM := mul_calls 0 (by omega)
    have hM0 : ∀ w : World, Calls Try.prog 57 #[.int .u64 1, .int .u64 0] w fun e w' => e = .returned (.tuple #[.int .u64 0, .int .u64 0]) ∧ w = w' := hM
    have HM := hid_of hM0
    clear hM hM0
    go_wp2_with (go_at_call 57; refine (HM.out _).mono ?_; rintro v w' ⟨rfl, rfl⟩)
    have KH := hid_of KM
    clear KM
    generalize hW : w.alloc (.cells (madeCells #[.int .i64 0] 0) 3) = W1 at RH KH ⊢
    clear hW
    go_loopw [8] (fun i wr => i = .int .i64 0 ∧ wr = W1) (fun _ _ => 0)
    case atStart => exact ⟨rfl, rfl⟩
    case round =>
      obtain ⟨rfl, rfl⟩ := hrel
      go_wp2_with fail
      go_ret
      exact ⟨rfl, RH.out, KH.out⟩
  · have hn1 : 1 ≤ n := by omega
    have HM := hid_of (fun w => mul_calls n hn w)
    have hxM := KM.cell hx
    have hcp : ∀ (ty : TypeId), (Builtin.copy_ #[26, 26] ty #[.slice (some ⟨w.heap.size, 0, none⟩) n n, .slice (some ⟨b, off, none⟩) 1 c]).run Try.prog (w.alloc (.cells (madeCells #[.int .i64 0] n) 3)) = .ok (.int .i64 1) ((w.alloc (.cells (madeCells #[.int .i64 0] n) 3)).setCells w.heap.size 0 (List.replicate 1 (.int .i64 (-1)))) := fun ty => by
      have := run_copy_cells (P := Try.prog) (w.alloc (.cells (madeCells #[.int .i64 0] n) 3)) 26 26 ty 3 w.heap.size 0 n n ⟨b, off, none⟩ 1 c [.int .i64 (-1)] Try.underlying26 hsz (by show 1 = min 1 n; omega)
        (by intro j v hj; match j, hj with | 0, hj => simp at hj; subst hj; simpa [Addr.add] using hxM) (by intro j hj; simp at hj; subst hj; rw [R0.cell (by omega)]; rfl) (by intro j hj; exact R0.frozen _) (by intro v hv; simp at hv; subst hv; rfl)
      simpa [goInt] using this
    have R1 : IntsAt ((w.alloc (.cells (madeCells #[.int .i64 0] n) 3)).setCells w.heap.size 0 (List.replicate 1 (.int .i64 (-1)))) w.heap.size n (fun i => if i < 1 then -1 else 0) :=
      (rowIs_setCells (.int .i64 (-1)) 1 _ 0 _ R0).congr (fun i _ => by by_cases e : i < 1 <;> simp [e])
    have K1 : Kept w ((w.alloc (.cells (madeCells #[.int .i64 0] n) 3)).setCells w.heap.size 0 (List.replicate 1 (.int .i64 (-1)))) := kept_setCells (Nat.le_refl _) _ _ _ KM
    have R1H := hid_of R1
    have K1H := hid_of K1
    clear R1 K1 R0 KM hxM
    have hw1 : IntKind.u64.wrap 1 = 1 := by decide
    go_enter Try.func47, Try.ntmps47
    go_wp2_with (go_at_call 57; refine (HM.out _).mono ?_; rintro v w' ⟨rfl, rfl⟩)
    go_loopw [8] (fun i wr => ∃ m : Nat, 1 ≤ m ∧ m ≤ n ∧ i = .int .i64 (m : Int) ∧ IntsAt wr w.heap.size n (fun i => if i < m then -1 else 0) ∧ Kept w wr) (fun i _ => n - (intOf i).toNat)
    case atStart => exact ⟨1, by omega, hn1, rfl, R1H.out, K1H.out⟩
    case round =>
      obtain ⟨m, hm1, hm2, rfl, R, K⟩ := hrel
      clear hcp R1H K1H hmk HM hw1
      by_cases hgo : (m : Int) < (n : Int)
      · obtain ⟨k, hk⟩ : ∃ k, min m (n - m) = k := ⟨_, rfl⟩
        have hk1 : 1 ≤ k := by omega
        have hk2 : m + k ≤ n := by omega
        have hk3 : k ≤ m := by omega
        have hnm : ¬ n = m := by omega
        have hwr : IntKind.i64.wrap ((m : Int) + (k : Int)) = (m : Int) + (k : Int) := by rw [IntKind.wrap_i64]; first | omega | (unfold wrap64; omega)
        have hcp : ∀ (ty : TypeId) (q : Nat), (Builtin.copy_ #[26, 26] ty #[.slice (some ⟨w.heap.size, m, none⟩) (n - m) (n - m), .slice (some ⟨w.heap.size, 0, none⟩) m n]).run Try.prog (wr.drewN q) = .ok (.int .i64 (k : Int)) ((wr.drewN q).setCells w.heap.size m (List.replicate k (.int .i64 (-1)))) := fun ty q => by
          have RQ : IntsAt (wr.drewN q) w.heap.size n (fun i => if i < m then -1 else 0) := R.kept ((Kept.refl wr).drewN q)
          have := run_copy_cells (P := Try.prog) (wr.drewN q) 26 26 ty 3 w.heap.size m (n - m) (n - m) ⟨w.heap.size, 0, none⟩ m n (List.replicate k (.int .i64 (-1))) Try.underlying26 hsz (by rw [List.length_replicate]; exact hk.symm)
            (by
              intro j v hj
              have hj2 : j < k := by
                rcases Nat.lt_or_ge j k with t | t
                · exact t
                · rw [List.getElem?_eq_none (by simpa using t)] at hj; cases hj
              rw [List.getElem?_replicate, if_pos hj2] at hj
              simp only [Option.some.injEq] at hj
              subst hj
              have e : (⟨w.heap.size, 0, none⟩ : Addr).add j = ⟨w.heap.size, j, none⟩ := by
                by_cases hz : j = 0
                · subst hz; rfl
                · simp [Addr.add, hz]
              rw [e, RQ.cell (by omega), if_pos (by omega)])
            (by intro j hj; rw [List.length_replicate] at hj; rw [RQ.cell (by omega)]; rfl) (by intro j hj; exact World.rowIs.frozen RQ _) (by intro v hv; obtain ⟨_, rfl⟩ := List.mem_replicate.1 hv; rfl)
          rw [List.length_replicate] at this
          simpa [goInt] using this
        have RN : Hid (∀ q, IntsAt ((wr.drewN q).setCells w.heap.size m (List.replicate k (.int .i64 (-1)))) w.heap.size n (fun i => if i < m + k then -1 else 0)) := fun q =>
          (rowIs_setCells (.int .i64 (-1)) k _ m _ (R.kept ((Kept.refl wr).drewN q))).congr (fun i _ => by
            dsimp only
            by_cases e1 : i < m
            · rw [if_neg (by omega), if_pos e1, if_pos (by omega)]
            · by_cases e2 : i < m + k
              · rw [if_pos (by omega), if_pos e2]
              · rw [if_neg (by omega), if_neg e1, if_neg e2])
        have KN : Hid (∀ q, Kept w ((wr.drewN q).setCells w.heap.size m (List.replicate k (.int .i64 (-1))))) := fun q => kept_setCells (Nat.le_refl _) _ _ _ (K.drewN q)
        clear R K hk
        go_wp2_with fail
        refine Ord.region [(0, 0), (1, 0), (2, 0), (3, 0), (4, 0), (5, 0), (6, 0), (7, 2), (8, 0), (9, 0)] (fun _ => True) (by kernel_rfl) (by kernel_rfl) (by kernel_rfl) (by kernel_rfl) (fun _ _ d _ _ h => by cases d <;> exact h) trivial ?_
        repeat
          refine Ord.step rfl (fun Ko hK => ?_)
          simp only [Ord.body]
          go_simp
          first
            | (refine hK _ _ ?_; clear hK Ko)
            | (simp only [hcp]; go_simp; refine ⟨trivial, hK _ _ ?_⟩; clear hK Ko)
        refine Ord.done ?_
        clear hcp
        have RNH := hid_of (RN.out 1)
        have KNH := hid_of (KN.out 1)
        clear RN KN
        generalize hW9 : (wr.drewN 1).setCells w.heap.size m (List.replicate k (.int .i64 (-1))) = W9 at RNH KNH ⊢
        clear hW9
        go_wp2_with fail
        go_roundw
        case rel => exact ⟨m + k, by omega, by omega, by go_num, RNH.out, KNH.out⟩
        case measure => simp [intOf]; omega
      · obtain rfl : m = n := by omega
        have RE : Hid (IntsAt wr w.heap.size m (fun _ => -1)) := World.rowIs.congr R (fun i hi => by dsimp only; rw [if_pos hi])
        have KH := hid_of K
        clear R K
        go_wp2_with fail
        go_ret
        exact ⟨rfl, RE.out, KH.out⟩

set_option maxHeartbeats 1000000 in
theorem unset_calls (n : Nat) (hn : n ≤ 1024) (w : World) :
    Calls Try.prog 28 #[.int .i64 (n : Int)] w fun r w' => r = .returned (.slice (some ⟨w.heap.size + 1, 0, none⟩) n n) ∧ IntsAt w' (w.heap.size + 1) n (fun _ => -1) ∧ Kept w w' := by
  have KB : Kept w (w.alloc (.cells #[.int .i64 (-1)] 3)) := (Kept.refl w).alloc _
  have x0 : (w.alloc (.cells #[.int .i64 (-1)] 3)).cell? ⟨w.heap.size, 0, none⟩ = some (.int .i64 (-1)) := by simp [go_sem]
  have hz : (w.alloc (.cells #[.int .i64 (-1)] 3)).heap.size = w.heap.size + 1 := by simp
  have C := hid_of (repeat_calls n hn w.heap.size 0 1 _ x0)
  rw [hz] at C
  go_enter Try.func28, Try.ntmps28
  go_wp2_with (go_at_call 47; refine C.out.mono ?_; rintro v w' ⟨rfl, R, K⟩; have RH := hid_of R; have KH := hid_of (KB.trans K); clear R K C)
  go_ret
  exact ⟨rfl, RH.out, KH.out⟩
end Go.Proofs.Ytjheiaegpoppaaa
