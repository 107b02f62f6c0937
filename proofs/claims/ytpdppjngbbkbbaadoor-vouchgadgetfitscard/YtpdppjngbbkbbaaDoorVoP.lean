/- Duals: weights of nodes and of sets; mustBeRight, sum. -/
import Derived.Test.YtpdppjngbbkbbaaDoorVoO
namespace Go.Proofs.YtpdppjngbbkbbaaDoor
open Go.RowKit

/-- Sets of nodes with their weights. -/
abbrev Sets := List (List Int × Int)
def setAt (ss : Sets) (i : Nat) : List Int × Int := ss.getD i ([], 0)
/-- A row of sets. -/
structure DRow (w : World) (ao : Option Addr) (n cap : Nat) (ss : Sets) : Prop where
  len : n = ss.length
  room : n ≤ cap
  most : cap ≤ maxLen
  cell : 0 < n → ∃ b off, ao = some ⟨b, off, none⟩ ∧ ∀ i, i < n → ∃ no nl nc, w.cell? ⟨b, off + i * 2, none⟩ = some (.slice no nl nc) ∧ JRow w no nl nc (setAt ss i).1 ∧ w.cell? ⟨b, off + i * 2 + 1, none⟩ = some (.int .i64 (setAt ss i).2)
theorem DRow.kept {w w' : World} {ao : Option Addr} {n cap : Nat} {ss : Sets} (h : DRow w ao n cap ss) (K : Kept w w') : DRow w' ao n cap ss :=
  ⟨h.len, h.room, h.most, fun hn => by
    obtain ⟨b, off, e, hc⟩ := h.cell hn
    refine ⟨b, off, e, fun i hi => ?_⟩
    obtain ⟨no, nl, nc, h1, h2, h3⟩ := hc i hi
    exact ⟨no, nl, nc, K.cell h1, h2.kept K, K.cell h3⟩⟩

/-- A set that may bear a weight. -/
def SetOk (N : Nat) (s : List Int × Int) : Prop := RiseTo s.1 (N : Int) s.1.length ∧ (3 ≤ s.1.length ∧ s.1.length % 2 = 1) ∧ 0 ≤ s.2 ∧ s.2 ≤ 4398046511104
/-- Weights for N nodes. -/
def WtsOk (Y : List Int) (my : Nat) (ss : Sets) (ns N : Nat) : Prop := PotsOk Y my N ∧ ns ≤ N ∧ ∀ i, i < ns → SetOk N (setAt ss i)

/-- What a set takes off. -/
def setHalf (s : List Int × Int) : Int := s.2 * ((s.1.length / 2 : Nat) : Int)
/-- What weights make together. -/
def worthOf (Y : List Int) (my : Nat) (ss : Sets) (k : Nat) : Int := sm (zAt Y) my - sm (fun i => setHalf (setAt ss i)) k
theorem worthOf_succ (Y : List Int) (my : Nat) (ss : Sets) (k : Nat) : worthOf Y my ss (k + 1) = worthOf Y my ss k - setHalf (setAt ss k) := by
  unfold worthOf
  rw [sm_succ]
  omega
theorem RiseTo.len_le {m : List Int} {N : Nat} {k : Nat} (h : RiseTo m (N : Int) k) : k ≤ N := by
  have : ∀ j, j < k → (j : Int) ≤ zAt m j := by
    intro j
    induction j with
    | zero => intro hj; have := h.nonneg 0 hj; omega
    | succ j ih => intro hj; have h1 := (h (j + 1) hj).1; simp only [lastOf] at h1; have := ih (by omega); omega
  by_cases e : k = 0
  · omega
  · have h1 := this (k - 1) (by omega)
    have h2 := (h (k - 1) (by omega)).2
    omega
theorem SetOk.half_bd {N : Nat} {s : List Int × Int} (hN : N ≤ 1024) (h : SetOk N s) : 0 ≤ setHalf s ∧ setHalf s ≤ 2251799813685248 := by
  have h1 := h.1.len_le
  have h2 : 0 ≤ ((s.1.length / 2 : Nat) : Int) ∧ ((s.1.length / 2 : Nat) : Int) ≤ 512 := by omega
  have := mul_bd (x := s.2) (y := ((s.1.length / 2 : Nat) : Int)) (X := 4398046511104) (Y := 512) (by omega) (by have := h.2.2; omega) h.2.2.2 h2.1 h2.2
  have h3 : 0 ≤ s.2 * ((s.1.length / 2 : Nat) : Int) := Int.mul_nonneg h.2.2.1 h2.1
  unfold setHalf
  omega
theorem worthOf_bd {Y : List Int} {my ns N : Nat} {ss : Sets} (hN : N ≤ 1024) (h : WtsOk Y my ss ns N) (k : Nat) (hk : k ≤ ns) : -2310346608841064448 ≤ worthOf Y my ss k ∧ worthOf Y my ss k ≤ 4503599627370496 := by
  have h1 := h.1
  obtain ⟨s1, s2⟩ := sm_bd (f := zAt Y) (k := my) (B := 4398046511104) (fun i hi => h1.2 i (by rw [← h1.1]; exact hi))
  have hmy : my ≤ 1024 := by rw [h1.1]; exact hN
  have h2 := h.2.1
  have : 0 ≤ sm (fun i => setHalf (setAt ss i)) k ∧ sm (fun i => setHalf (setAt ss i)) k ≤ 2251799813685248 * (k : Int) := by
    induction k with
    | zero => exact ⟨Int.le_refl _, by simp [sm]⟩
    | succ k ih => rw [sm_succ]; have := ih (by omega); have := (h.2.2 k (by omega)).half_bd hN; omega
  unfold worthOf
  omega

set_option maxRecDepth 100000 in
set_option linter.unusedSimpArgs false in
set_option maxHeartbeats 4000000 in
theorem right_calls (N : Nat) (yo : Option Addr) (my yc : Nat) (Y : List Int) (so : Option Addr) (ns sc : Nat) (ss : Sets) (w : World) (hY : JRow w yo my yc Y) (hS : DRow w so ns sc ss) :
    Calls Tryd.prog 101 #[.agg #[.slice yo my yc, .slice so ns sc], .int .i64 (N : Int)] w fun r w' => Kept w w' ∧ ((WtsOk Y my ss ns N ∧ r = .returned (.tuple #[])) ∨ (¬ WtsOk Y my ss ns N ∧ r = .panicked [{ v := .iface 140 (.agg #[.int .i64 221]), recovered := false }])) := by
  have hr2 := hS.room
  have hm2 := hS.most
  unfold maxLen at hm2
  have KW : Kept w (w.alloc (Obj.cells #[.slice yo my yc, .slice so ns sc] 45)) := (Kept.refl w).alloc _
  have w0 : (w.alloc (Obj.cells #[.slice yo my yc, .slice so ns sc] 45)).cell? ⟨w.heap.size, 0, none⟩ = some (.slice yo my yc) := by simp [go_sem]
  have w1 : (w.alloc (Obj.cells #[.slice yo my yc, .slice so ns sc] 45)).cell? ⟨w.heap.size, 1, none⟩ = some (.slice so ns sc) := by simp [go_sem]
  have HY := hid_of hY
  have HS := hid_of hS
  clear hY hS
  go_enter Tryd.func101, Tryd.ntmps101
  go_wp2_with fail
  generalize w.alloc (Obj.cells #[.slice yo my yc, .slice so ns sc] 45) = W1 at KW w0 w1 ⊢
  refine (mustPot_calls N yo my yc Y W1 (HY.out.kept KW)).mono ?_
  rintro e wa ⟨K1, ⟨ok, rfl⟩ | ⟨ok, rfl⟩⟩
  rotate_left
  · have HK := hid_of (KW.trans K1)
    clear KW K1 w0 w1
    go_wp2
    exact ⟨rfl, HK.out, .inr ⟨fun t => ok t.1, rfl⟩⟩
  replace w1 := K1.cell w1
  have HK := hid_of (KW.trans K1)
  have POK := hid_of ok
  clear K1 KW w0 ok
  by_cases hle : ns ≤ N
  rotate_left
  · have hli : ¬ (ns : Int) ≤ (N : Int) := by omega
    have q : decide ((ns : Int) ≤ (N : Int)) = false := decide_eq_false hli
    go_wp2_with (go_at_call 51; refine (must_no _).mono ?_; rintro e w' ⟨rfl, rfl⟩)
    exact ⟨rfl, HK.out, .inr ⟨fun t => hle t.2.1, rfl⟩⟩
  have hli : (ns : Int) ≤ (N : Int) := by omega
  have q : decide ((ns : Int) ≤ (N : Int)) = true := decide_eq_true hli
  go_wp2_with (go_at_call 51; refine (must_ok _).mono ?_; rintro e w' ⟨rfl, rfl⟩)
  go_loopw [5, 19] (fun _ i wr => ∃ (k : Nat), k ≤ ns ∧ i = .int .i64 k ∧ Kept w wr ∧ ∀ i, i < k → SetOk N (setAt ss i)) (fun _ i _ => ns - (intOf i).toNat)
  case atStart => exact ⟨0, by omega, rfl, HK.out, fun i hi => by omega⟩
  case round =>
    obtain ⟨k, hk, rfl, K, hno⟩ := hrel
    have HNO := hid_of hno
    have KH := hid_of K
    clear hno HK w1 q hli
    by_cases hgo : (k : Int) < (ns : Int)
    · obtain ⟨b, off, rfl, hc⟩ := (HS.out.kept K).cell (by omega)
      obtain ⟨no, nl, nc, c1, J, c2⟩ := hc k (by omega)
      have HIT : Hid (SetOk N (setAt ss k) → ∀ i, i < k + 1 → SetOk N (setAt ss i)) := fun hb i hi => by
        by_cases e : i = k
        · subst e; exact hb
        · exact HNO.out i (by omega)
      have MISS : Hid (¬ SetOk N (setAt ss k) → ¬ WtsOk Y my ss ns N) := fun hb t => hb (t.2.2 k (by omega))
      generalize setAt ss k = s at J c2 HIT MISS
      obtain ⟨nds, z⟩ := s
      simp only at J c2
      have HLN := hid_of J.len
      have hnr := J.room
      have hnm := J.most
      unfold maxLen at hnm
      have KB : Kept wr (wr.alloc (Obj.cells #[.slice no nl nc, .int .i64 z] 110)) := (Kept.refl wr).alloc _
      obtain ⟨eb, heb⟩ : ∃ eb, wr.heap.size = eb := ⟨_, rfl⟩
      have a0 : (wr.alloc (Obj.cells #[.slice no nl nc, .int .i64 z] 110)).cell? ⟨eb, 0, none⟩ = some (.slice no nl nc) := by simp [go_sem, ← heb]
      have a1 : (wr.alloc (Obj.cells #[.slice no nl nc, .int .i64 z] 110)).cell? ⟨eb, 1, none⟩ = some (.int .i64 z) := by simp [go_sem, ← heb]
      have J3 := hid_of (J.kept KB)
      have K3 := hid_of (KH.out.trans KB)
      clear hc J K
      go_upto_region 6 with fail
      generalize wr.alloc (Obj.cells #[.slice no nl nc, .int .i64 z] 110) = W3 at a0 a1 J3 K3 ⊢
      clear c1 c2 KB KH heb
      have MR := hid_of (mustRise_calls no nl nc nds (N : Int) W3 J3.out)
      go_wp2_with fail
      refine MR.out.mono ?_
      rintro e w4 ⟨K4, ⟨ris, rfl⟩ | ⟨ris, rfl⟩⟩
      rotate_left
      · have HK4 := hid_of (K3.out.trans K4)
        have P := hid_of (MISS.out (fun t => ris (by rw [HLN.out]; exact t.1)))
        clear K4 MR a0 a1 HIT MISS
        go_wp2
        exact ⟨rfl, HK4.out, .inr ⟨P.out, rfl⟩⟩
      replace a0 := K4.cell a0
      replace a1 := K4.cell a1
      have HK4 := hid_of (K3.out.trans K4)
      have RIS := hid_of ris
      clear K4 MR K3 J3 ris
      have hrm : ((nl : Int)).tmod 2 = ((nl % 2 : Nat) : Int) := by rw [Int.tmod_eq_emod_of_nonneg (by omega)]; omega
      obtain ⟨r, hr⟩ : ∃ r, nl % 2 = r := ⟨_, rfl⟩
      rw [hr] at hrm
      by_cases h3 : 3 ≤ nl
      rotate_left
      · have P := hid_of (MISS.out (fun t => h3 (by rw [HLN.out]; exact t.2.1.1)))
        have q3 : decide ((3 : Int) ≤ (nl : Int)) = false := decide_eq_false (by omega)
        have h3' : ¬ (3 : Int) ≤ (nl : Int) := by omega
        clear HIT MISS
        go_wp2_with (go_at_call 51; refine (must_no _).mono ?_; rintro e w' ⟨rfl, rfl⟩)
        exact ⟨rfl, HK4.out, .inr ⟨P.out, rfl⟩⟩
      have q3 : decide ((3 : Int) ≤ (nl : Int)) = true := decide_eq_true (by omega)
      have h3' : (3 : Int) ≤ (nl : Int) := by omega
      by_cases h1 : r = 1
      rotate_left
      · have P := hid_of (MISS.out (fun t => h1 (by have h2 : nds.length % 2 = 1 := t.2.1.2; rw [← HLN.out] at h2; omega)))
        have q4 : ((r : Int) == 1) = false := by rw [beq_eq_false_iff_ne]; omega
        clear HIT MISS
        go_wp2_with (go_at_call 51; refine (must_no _).mono ?_; rintro e w' ⟨rfl, rfl⟩)
        exact ⟨rfl, HK4.out, .inr ⟨P.out, rfl⟩⟩
      have q4 : ((r : Int) == 1) = true := by rw [beq_iff_eq]; omega
      by_cases hz : 0 ≤ z
      rotate_left
      · have P := hid_of (MISS.out (fun t => hz t.2.2.1))
        have q5 : decide (0 ≤ z) = false := decide_eq_false hz
        clear HIT MISS
        go_wp2_with (first | (go_at_call 51; refine (must_ok _).mono ?_; rintro e w' ⟨rfl, rfl⟩) | (go_at_call 51; refine (must_no _).mono ?_; rintro e w' ⟨rfl, rfl⟩))
        exact ⟨rfl, HK4.out, .inr ⟨P.out, rfl⟩⟩
      have q5 : decide (0 ≤ z) = true := decide_eq_true hz
      by_cases hz2 : z ≤ 4398046511104
      rotate_left
      · have P := hid_of (MISS.out (fun t => hz2 t.2.2.2))
        have q6 : decide (z ≤ 4398046511104) = false := decide_eq_false hz2
        clear HIT MISS
        go_wp2_with (first | (go_at_call 51; refine (must_ok _).mono ?_; rintro e w' ⟨rfl, rfl⟩) | (go_at_call 51; refine (must_no _).mono ?_; rintro e w' ⟨rfl, rfl⟩))
        exact ⟨rfl, HK4.out, .inr ⟨P.out, rfl⟩⟩
      have q6 : decide (z ≤ 4398046511104) = true := decide_eq_true hz2
      have P := hid_of (HIT.out ⟨by rw [← HLN.out]; exact RIS.out, ⟨by rw [← HLN.out]; exact h3, by rw [← HLN.out]; omega⟩, hz, hz2⟩)
      clear HIT MISS
      go_wp2_with (go_at_call 51; refine (must_ok _).mono ?_; rintro e w' ⟨rfl, rfl⟩)
      go_roundw
      case rel => exact ⟨k + 1, by omega, by go_num, HK4.out, P.out⟩
      case measure => simp [intOf]; omega
    · obtain rfl : k = ns := by omega
      clear K
      go_wp2
      exact bodyPost_end (v := .tuple #[]) (by simp [results, Tryd.results101]) rfl ⟨KH.out, .inl ⟨⟨POK.out, hle, HNO.out⟩, rfl⟩⟩

set_option maxRecDepth 100000 in
set_option linter.unusedSimpArgs false in
set_option maxHeartbeats 4000000 in
theorem sum_calls (N : Nat) (hN : N ≤ 1024) (yo : Option Addr) (my yc : Nat) (Y : List Int) (so : Option Addr) (ns sc : Nat) (ss : Sets) (w : World) (hY : JRow w yo my yc Y) (hS : DRow w so ns sc ss) (hW : WtsOk Y my ss ns N) :
    Calls Tryd.prog 104 #[.agg #[.slice yo my yc, .slice so ns sc]] w fun r w' => r = .returned (.int .i64 (worthOf Y my ss ns)) ∧ Kept w w' := by
  have hr2 := hS.room
  have hm2 := hS.most
  unfold maxLen at hm2
  have KW : Kept w (w.alloc (Obj.cells #[.slice yo my yc, .slice so ns sc] 45)) := (Kept.refl w).alloc _
  have w0 : (w.alloc (Obj.cells #[.slice yo my yc, .slice so ns sc] 45)).cell? ⟨w.heap.size, 0, none⟩ = some (.slice yo my yc) := by simp [go_sem]
  have w1 : (w.alloc (Obj.cells #[.slice yo my yc, .slice so ns sc] 45)).cell? ⟨w.heap.size, 1, none⟩ = some (.slice so ns sc) := by simp [go_sem]
  have HY := hid_of hY
  have HS := hid_of hS
  have HW := hid_of hW
  clear hY hS hW
  go_enter Tryd.func104, Tryd.ntmps104
  go_wp2_with fail
  generalize w.alloc (Obj.cells #[.slice yo my yc, .slice so ns sc] 45) = W1 at KW w0 w1 ⊢
  refine (sumOf_calls yo my yc Y W1 (HY.out.kept KW) (by rw [HW.out.1.1]; exact hN) (fun i hi => HW.out.1.2 i (by rw [← HW.out.1.1]; exact hi))).mono ?_
  rintro e wa ⟨rfl, rfl⟩
  have W0 : Hid (sm (zAt Y) my = worthOf Y my ss 0) := by show _ = _; unfold worthOf; simp [sm]
  have HK := hid_of KW
  clear KW w0
  rw [W0.out]
  go_wp2_with fail
  go_loopw [3, 5, 12] (fun s _ i wr => ∃ (k : Nat), k ≤ ns ∧ i = .int .i64 k ∧ s = .int .i64 (worthOf Y my ss k) ∧ Kept w wr) (fun _ _ i _ => ns - (intOf i).toNat)
  case atStart => exact ⟨0, by omega, rfl, rfl, HK.out⟩
  case round =>
    obtain ⟨k, hk, rfl, rfl, K⟩ := hrel
    have KH := hid_of K
    clear HK w1
    by_cases hgo : (k : Int) < (ns : Int)
    · obtain ⟨b, off, rfl, hc⟩ := (HS.out.kept K).cell (by omega)
      obtain ⟨no, nl, nc, c1, J, c2⟩ := hc k (by omega)
      have SU := hid_of (worthOf_succ Y my ss k)
      obtain ⟨p1, p2⟩ := worthOf_bd hN HW.out k hk
      obtain ⟨p3, p4⟩ := worthOf_bd hN HW.out (k + 1) (by omega)
      obtain ⟨p5, p6⟩ := (HW.out.2.2 k (by omega)).half_bd hN
      rw [SU.out] at p3 p4
      unfold setHalf at SU p3 p4 p5 p6
      generalize worthOf Y my ss k = s0 at SU p1 p2 p3 p4
      generalize setAt ss k = s at J c2 SU p3 p4 p5 p6
      obtain ⟨nds, z⟩ := s
      simp only at J c2 SU p3 p4 p5 p6
      rw [← J.len] at SU p3 p4 p5 p6
      have hnr := J.room
      have hnm := J.most
      unfold maxLen at hnm
      have hq : ((nl : Int)) / 2 = ((nl / 2 : Nat) : Int) := by omega
      obtain ⟨hh, hhe⟩ : ∃ hh : Nat, nl / 2 = hh := ⟨_, rfl⟩
      rw [hhe] at SU hq p3 p4 p5 p6
      have WR0 : IntKind.i64.wrap ((hh : Int)) = (hh : Int) := wrap_id (by omega) (by omega)
      have WR1 : IntKind.i64.wrap (z * (hh : Int)) = z * (hh : Int) := wrap_id (by omega) (by omega)
      have WR2 : IntKind.i64.wrap (s0 - z * (hh : Int)) = s0 - z * (hh : Int) := wrap_id (by omega) (by omega)
      clear hc J K hhe p1 p2 p3 p4 p5 p6
      go_wp2_with fail
      go_roundw
      case rel => exact ⟨k + 1, by omega, by go_num, by rw [SU.out], KH.out.alloc _⟩
      case measure => simp [intOf]; omega
    · obtain rfl : k = ns := by omega
      clear K
      go_wp2
      go_ret
      exact ⟨rfl, KH.out⟩
end Go.Proofs.YtpdppjngbbkbbaaDoor
