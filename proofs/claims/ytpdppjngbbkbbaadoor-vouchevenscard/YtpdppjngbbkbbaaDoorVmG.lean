/- One text of VpG, VpH, VpI, VpJ. -/
import Derived.Test.YtpdppjngbbkbbaaDoorVoZ
import Derived.Lib.TrailingZeros
namespace Go.Proofs.YtpdppjngbbkbbaaDoor
open Go.RowKit

/-- The lowest bit of a number, taken off. -/
theorem ctz_cut (b : Nat) (h0 : b ≠ 0) (hb : b < 18446744073709551616) :
    Lib.ctz 64 b < 64 ∧ b.testBit (Lib.ctz 64 b) = true ∧ (∀ i, i < Lib.ctz 64 b → b.testBit i = false) ∧ ∀ i, (b &&& (b - 1)).testBit i = (b.testBit i && decide (i ≠ Lib.ctz 64 b)) := by
  obtain ⟨m, e, hk⟩ := Lib.ctzFrom_spec 64 b (by omega) (Nat.lt_of_lt_of_le hb (by decide))
  have ec : Lib.ctz 64 b = Lib.ctzFrom 64 b := by unfold Lib.ctz; rw [if_neg h0]
  rw [ec]
  generalize Lib.ctzFrom 64 b = k at e hk
  subst e
  have hp : 0 < 2 ^ k := Nat.two_pow_pos k
  have e1 : 2 ^ k * (2 * m + 1) - 1 = 2 ^ k * (2 * m) + (2 ^ k - 1) := by
    rw [Nat.mul_add, Nat.mul_one]; omega
  have t : ∀ i, (2 ^ k * (2 * m + 1)).testBit i = (decide (k ≤ i) && (2 * m + 1).testBit (i - k)) := fun i => by
    rw [Nat.testBit_two_pow_mul]
  refine ⟨hk, ?_, ?_, ?_⟩
  · rw [t]; simp
  · intro i hi
    rw [t]
    simp; omega
  · intro i
    rw [Nat.testBit_and, e1, Nat.testBit_two_pow_mul_add _ (by omega), t]
    by_cases h : i < k
    · simp [h]; omega
    · rw [if_neg h]
      by_cases hi : i = k
      · subst hi; simp
      · obtain ⟨j, hj⟩ : ∃ j, i - k = j + 1 := ⟨i - k - 1, by omega⟩
        rw [hj, Nat.testBit_succ, Nat.testBit_succ]
        have d1 : (2 * m + 1) / 2 = m := by omega
        have d2 : (2 * m) / 2 = m := by omega
        rw [d1, d2]
        have : k ≤ i := by omega
        simp [this, hi]
theorem and_lt64 (a b : Nat) (ha : a < 18446744073709551616) : a &&& b < 18446744073709551616 := Nat.lt_of_le_of_lt Nat.and_le_left ha
theorem or_lt64 (a b : Nat) (ha : a < 18446744073709551616) (hb : b < 18446744073709551616) : a ||| b < 18446744073709551616 := Nat.or_lt_two_pow (x := a) (y := b) (n := 64) ha hb

/-- Is a node in a set? -/
def hasIn (ss : Sets) (i v : Nat) : Bool := inTo (setAt ss i).1 (setAt ss i).1.length v
/-- Is a node in a set that was taken in: of the s-th set the first c nodes were. -/
def progB (ss : Sets) (s c v i : Nat) : Bool := (decide (i < s) && hasIn ss i v) || (decide (i = s) && inTo (setAt ss s).1 c v)
theorem progB_zero (ss : Sets) (v i : Nat) : progB ss 0 0 v i = false := by simp [progB, inTo]
theorem progB_full (ss : Sets) {s i : Nat} (v : Nat) (h : i < s) : progB ss s 0 v i = hasIn ss i v := by
  unfold progB
  have h0 : inTo (setAt ss s).1 0 v = false := by simp [inTo]
  rw [h0, Bool.and_false, Bool.or_false, decide_eq_true h, Bool.true_and]
theorem progB_next (ss : Sets) (s v i : Nat) : progB ss (s + 1) 0 v i = progB ss s (setAt ss s).1.length v i := by
  unfold progB
  have h0 : inTo (setAt ss (s + 1)).1 0 v = false := by simp [inTo]
  rw [h0, Bool.and_false, Bool.or_false]
  by_cases e : i = s
  · subst e; simp [hasIn]
  · have h1 : decide (i < s + 1) = decide (i < s) := by by_cases h : i < s <;> simp [h] <;> omega
    rw [h1]; simp [e]
theorem progB_step (ss : Sets) (s c v i : Nat) : progB ss s (c + 1) v i = (progB ss s c v i || (decide (i = s) && decide ((v : Int) = zAt (setAt ss s).1 c))) := by
  unfold progB
  rw [inTo_succ]
  by_cases e : i = s
  · by_cases h : (v : Int) = zAt (setAt ss s).1 c
    · simp [e, h]
    · simp [e, h]
  · simp [e]

/-- A word's bits. -/
def WordOk (p : Nat → Bool) (k x : Nat) : Prop := x < 18446744073709551616 ∧ ∀ j, j < 64 → x.testBit j = p (64 * k + j)
theorem WordOk.zero {p : Nat → Bool} {k : Nat} (h : ∀ i, p i = false) : WordOk p k 0 := ⟨by decide, fun j _ => by rw [h]; exact Nat.zero_testBit j⟩
theorem WordOk.congr {p q : Nat → Bool} {k x : Nat} (h : WordOk p k x) (e : ∀ j, j < 64 → q (64 * k + j) = p (64 * k + j)) : WordOk q k x := ⟨h.1, fun j hj => by rw [h.2 j hj, e j hj]⟩
theorem WordOk.set {p q : Nat → Bool} {k x j0 : Nat} (h : WordOk p k x) (hj : j0 < 64) (e : ∀ j, j < 64 → q (64 * k + j) = (p (64 * k + j) || decide (j = j0))) : WordOk q k (x ||| 2 ^ j0) := by
  have hp : 2 ^ j0 < 18446744073709551616 := Nat.pow_lt_pow_right (a := 2) (m := j0) (n := 64) (by decide) hj
  refine ⟨or_lt64 _ _ h.1 hp, fun j hj => ?_⟩
  rw [Nat.testBit_or, h.2 j hj, e j hj, Nat.testBit_two_pow]
  congr 1
  by_cases t : j = j0
  · subst t; simp
  · have : ¬ j0 = j := fun u => t u.symm
    simp [t, this]

/-- Words of bits in memory. -/
structure InAt (w : World) (B q N W : Nat) (p : Nat → Nat → Bool) : Prop where
  ex : ∃ (bv : Nat → Nat) (x : Nat → Nat → Nat), w.rowIs q 144 N (fun v => .slice (some ⟨bv v, 0, none⟩) W W) ∧ (∀ v, v < N → w.rowIs (bv v) 145 W (fun k => .int .u64 ((x v k : Nat) : Int))) ∧ (∀ v k, v < N → k < W → WordOk (p v) k (x v k)) ∧ (∀ v, v < N → bv v ≠ q ∧ B ≤ bv v) ∧ (∀ v u, v < N → u < N → bv v = bv u → v = u)
theorem InAt.kept {w w' : World} {B q N W : Nat} {p : Nat → Nat → Bool} (h : InAt w B q N W p) (K : Kept w w') : InAt w' B q N W p := by
  obtain ⟨bv, x, h1, h2, h3, h4, h5⟩ := h.ex
  exact ⟨bv, x, h1.of_block (K.block _ h1.lt), fun v hv => (h2 v hv).of_block (K.block _ (h2 v hv).lt), h3, h4, h5⟩
theorem InAt.congr {w : World} {B q N W : Nat} {p r : Nat → Nat → Bool} (h : InAt w B q N W p) (e : ∀ v i, r v i = p v i) : InAt w B q N W r := by
  obtain ⟨bv, x, h1, h2, h3, h4, h5⟩ := h.ex
  exact ⟨bv, x, h1, h2, fun v k hv hk => (h3 v k hv hk).congr fun j _ => e _ _, h4, h5⟩
/-- While its rows are made. -/
structure MadeAt (w : World) (B q N W k : Nat) : Prop where
  ex : ∃ (bv : Nat → Nat), w.rowIs q 144 N (fun v => if v < k then .slice (some ⟨bv v, 0, none⟩) W W else .slice none 0 0) ∧ (∀ v, v < k → w.rowIs (bv v) 145 W (fun _ => .int .u64 0)) ∧ (∀ v, v < k → bv v ≠ q ∧ B ≤ bv v) ∧ (∀ v u, v < k → u < k → bv v = bv u → v = u)
theorem MadeAt.done {w : World} {B q N W : Nat} (h : MadeAt w B q N W N) (ss : Sets) : InAt w B q N W (progB ss 0 0) := by
  obtain ⟨bv, h1, h2, h3, h4⟩ := h.ex
  exact ⟨bv, fun _ _ => 0, h1.congr fun i hi => by rw [if_pos hi], h2, fun v k _ _ => .zero fun i => progB_zero ss v i, h3, h4⟩

/-- What is left of a word, and the weights so far. -/
def PB (p : Nat → Bool) (k t b : Nat) : Prop := b < 18446744073709551616 ∧ ∀ j, j < 64 → b.testBit j = (decide (t ≤ j) && p (64 * k + j))
def pw (p : Nat → Bool) (z : Nat → Int) (m : Nat) : Int := sm (fun i => if p i then z i else 0) m
theorem pw_gap {p : Nat → Bool} (z : Nat → Int) (a : Nat) : ∀ d, (∀ i, a ≤ i → i < a + d → p i = false) → pw p z (a + d) = pw p z a := by
  intro d
  induction d with
  | zero => intro _; rfl
  | succ d ih =>
    intro h
    have e : pw p z (a + (d + 1)) = pw p z (a + d) + if p (a + d) then z (a + d) else 0 := rfl
    rw [e, h (a + d) (by omega) (by omega), ih (fun i h1 h2 => h i h1 (by omega))]
    simp
theorem PB.step {p : Nat → Bool} (z : Nat → Int) {k t b : Nat} (h : PB p k t b) (hb : b ≠ 0) : Lib.ctz 64 b < 64 ∧ t ≤ Lib.ctz 64 b ∧ p (64 * k + Lib.ctz 64 b) = true ∧ pw p z (64 * k + (Lib.ctz 64 b + 1)) = pw p z (64 * k + t) + z (64 * k + Lib.ctz 64 b) ∧ PB p k (Lib.ctz 64 b + 1) (b &&& (b - 1)) := by
  obtain ⟨c1, c2, c3, c4⟩ := ctz_cut b hb h.1
  generalize Lib.ctz 64 b = j at c1 c2 c3 c4
  have hj := h.2 j c1
  rw [c2] at hj
  have hj := hj.symm
  rw [Bool.and_eq_true, decide_eq_true_eq] at hj
  refine ⟨c1, hj.1, hj.2, ?_, and_lt64 _ _ h.1, fun i hi => ?_⟩
  · have e : pw p z (64 * k + (j + 1)) = pw p z (64 * k + j) + if p (64 * k + j) then z (64 * k + j) else 0 := rfl
    have g := pw_gap (p := p) z (64 * k + t) (j - t) fun i h1 h2 => by
      have a := c3 (i - 64 * k) (by omega)
      have b := h.2 (i - 64 * k) (by omega)
      rw [a, decide_eq_true (show t ≤ i - 64 * k by omega), Bool.true_and, show 64 * k + (i - 64 * k) = i by omega] at b
      exact b.symm
    rw [show 64 * k + t + (j - t) = 64 * k + j by omega] at g
    rw [e, hj.2, g]; rfl
  · rw [c4, h.2 i hi]
    by_cases e : i = j
    · subst e; simp; intro h; omega
    · by_cases l : i < j
      · have a := c3 i l
        rw [h.2 i hi] at a
        rw [a]; simp; omega
      · have a : decide (t ≤ i) = true := decide_eq_true (by omega)
        have b : decide (j + 1 ≤ i) = true := decide_eq_true (by omega)
        rw [a, b]; simp [e]
theorem PB.done {p : Nat → Bool} (z : Nat → Int) {k t : Nat} (h : PB p k t 0) (ht : t ≤ 64) : pw p z (64 * (k + 1)) = pw p z (64 * k + t) := by
  have g := pw_gap (p := p) z (64 * k + t) (64 - t) fun i h1 h2 => by
    have b := h.2 (i - 64 * k) (by omega)
    rw [Nat.zero_testBit, decide_eq_true (show t ≤ i - 64 * k by omega), Bool.true_and, show 64 * k + (i - 64 * k) = i by omega] at b
    exact b.symm
  rw [← g]
  congr 1
  omega
theorem PB.both {p q : Nat → Bool} {k x y : Nat} (h : WordOk p k x) (h2 : WordOk q k y) : PB (fun i => p i && q i) k 0 (x &&& y) := ⟨and_lt64 _ _ h.1, fun j hj => by rw [Nat.testBit_and, h.2 j hj, h2.2 j hj]; simp⟩
theorem pw_bd {p : Nat → Bool} {z : Nat → Int} (hz : ∀ i, p i = true → 0 ≤ z i ∧ z i ≤ 4398046511104) : ∀ m, 0 ≤ pw p z m ∧ pw p z m ≤ 4398046511104 * (m : Int) := by
  intro m
  induction m with
  | zero => exact ⟨Int.le_refl _, Int.le_refl _⟩
  | succ m ih =>
    have e : pw p z (m + 1) = pw p z m + if p m then z m else 0 := rfl
    rw [e]
    cases hp : p m with
    | true => have := hz m hp; simp only [if_true]; omega
    | false => simp only [Bool.false_eq_true, if_false]; omega
end Go.Proofs.YtpdppjngbbkbbaaDoor
namespace Go.Proofs.YtpdppjngbbkbbaaDoor
open Go.RowKit

/-- The library's table of places of bits lies in its variable. -/
def Tab (w : World) : Prop := ∀ j, j < 64 → w.cell? ⟨0, j, none⟩ = some (.int .u8 ((Lib.deBruijn64tab.getD j 0 : Nat) : Int))

theorem Tab.kept {w w' : World} (h : Tab w) (k : Kept w w') : Tab w' := fun j hj => k.cell (h j hj)

theorem tz_key (x a : Nat) (hx : x < 18446744073709551616) (hx0 : x ≠ 0) (hlow : x &&& (18446744073709551616 - x) = a) :
    IntKind.u64.wrap (bits .and .u64 (x : Int) (IntKind.u64.wrap (-(x : Int))) * 285870213051353865) / 288230376151711744 = ((a * 285870213051353865 % 18446744073709551616 / 288230376151711744 : Nat) : Int) := by
  have e1 : IntKind.u64.wrap (-(x : Int)) = ((18446744073709551616 - x : Nat) : Int) := by rw [IntKind.wrap_u64]; omega
  rw [e1, u64_and_nat x _ hx (by omega), hlow, IntKind.wrap_u64]
  omega

theorem nat_ex (x : Nat) : ∃ y, x = y := ⟨x, rfl⟩

set_option maxRecDepth 100000 in
set_option maxHeartbeats 1000000 in
theorem tz_calls (x : Nat) (hx : x < 18446744073709551616) (hx0 : x ≠ 0) (w : World) (hT : Tab w) : Calls Tryd.prog 112 #[.int .u64 (x : Int)] w fun e w' => e = .returned (.int .i64 ((Lib.ctz 64 x : Nat) : Int)) ∧ w = w' := by
  obtain ⟨hlow, hk⟩ := Lib.lowest_bit 64 x hx0 hx
  obtain ⟨hi, htab⟩ := Lib.deBruijn64_at _ hk
  have hc := hT _ hi
  rw [htab] at hc
  have key := tz_key x _ hx hx0 hlow
  have q1 : ((x : Int) == 0) = false := by simp; omega
  generalize Lib.ctz 64 x = k at hk hc key hi
  clear hlow htab
  revert hi hc key
  generalize 2 ^ k = p
  intro hi hc key
  obtain ⟨idx, hidx⟩ := nat_ex (p * 285870213051353865 % 18446744073709551616 / 288230376151711744)
  rw [hidx] at hi hc key
  clear hidx
  go_enter Tryd.func112, Tryd.ntmps112
  go_wp2_with (simp only [key])
  go_ret
  exact ⟨rfl, rfl⟩
end Go.Proofs.YtpdppjngbbkbbaaDoor
namespace Go.Proofs.YtpdppjngbbkbbaaDoor
open Go.RowKit

set_option maxRecDepth 100000 in
set_option linter.unusedSimpArgs false in
set_option maxHeartbeats 4000000 in
theorem weightS_calls (N : Nat) (hN : N ≤ 1024) (yo : Option Addr) (yc : Nat) (Y : List Int) (so : Option Addr) (ns sc : Nat) (ss : Sets) (db kb ib q W B : Nat) (u v : Nat) (w : World) (hY : JRow w yo N yc Y) (hS : DRow w so ns sc ss) (hW : WtsOk Y N ss ns N) (hd : w.cell? ⟨db, 0, none⟩ = some (.slice yo N yc)) (hd1 : w.cell? ⟨db, 1, none⟩ = some (.slice so ns sc)) (hk : w.cell? ⟨kb, 0, none⟩ = some (.int .i64 (W : Int))) (hi : w.cell? ⟨ib, 0, none⟩ = some (.slice (some ⟨q, 0, none⟩) N N)) (HIN : InAt w B q N W (progB ss ns 0)) (hW1 : ns ≤ 64 * W) (hW2 : W ≤ 16) (hT : Tab w) (hu : u < N) (hv : v < N) (pr : Int) (hpr : Hid (pairOf Y ss ns u v = pr)) :
    Calls Tryd.prog 111 #[.int .i64 (u : Int), .int .i64 (v : Int), .pointer (some ⟨db, 0, none⟩), .pointer (some ⟨kb, 0, none⟩), .pointer (some ⟨ib, 0, none⟩)] w fun e w' => e = .returned (.int .i64 pr) ∧ Kept w w' := by
  have hr2 := hY.room
  have hm2 := hY.most
  have hr3 := hS.room
  have hm3 := hS.most
  unfold maxLen at hm2 hm3
  obtain ⟨b, off, rfl, hc⟩ := hY.at (by omega)
  have cu := hc u hu
  have cv := hc v hv
  have hp := hW.1.2
  obtain ⟨u1, u2⟩ := hp u hu
  obtain ⟨v1, v2⟩ := hp v hv
  have HS := hid_of hS
  have HW := hid_of hW
  have HT := hid_of hT
  obtain ⟨bv, x, R1, R2, R3, R4, R5⟩ := HIN.ex
  have RU := hid_of (fun k (hk : k < W) => (⟨(R2 u hu).cell hk, R3 u k hu hk⟩ : w.cell? ⟨bv u, k, none⟩ = some (.int .u64 ((x u k : Nat) : Int)) ∧ WordOk (progB ss ns 0 u) k (x u k)))
  have RV := hid_of (fun k (hk : k < W) => (⟨(R2 v hv).cell hk, R3 v k hv hk⟩ : w.cell? ⟨bv v, k, none⟩ = some (.int .u64 ((x v k : Nat) : Int)) ∧ WordOk (progB ss ns 0 v) k (x v k)))
  have ru := R1.cell hu
  have rv := R1.cell hv
  obtain ⟨P, hP⟩ : ∃ P : Nat → Bool, P = fun i => progB ss ns 0 u i && progB ss ns 0 v i := ⟨_, rfl⟩
  obtain ⟨z, hzz⟩ : ∃ z : Nat → Int, z = fun i => (setAt ss i).2 := ⟨_, rfl⟩
  have hPn : ∀ i, P i = true → i < ns := fun i h => by
    rw [hP] at h
    simp only [progB, inTo, List.range_zero, List.any_nil, Bool.and_false, Bool.or_false, Bool.and_eq_true, decide_eq_true_eq] at h
    exact h.1.1
  have hZ : ∀ i, P i = true → 0 ≤ z i ∧ z i ≤ 4398046511104 := fun i h => by
    have := hW.2.2 i (hPn i h)
    rw [hzz]
    exact this.2.2
  have HPN := hid_of hPn
  have PBD := hid_of (fun m => pw_bd hZ m)
  have PRE : Hid (zAt Y u + zAt Y v - pw P z (64 * W) = pr) := by
    have e : pw P z (64 * W) = sm (fun i => if inTo (setAt ss i).1 (setAt ss i).1.length u && inTo (setAt ss i).1 (setAt ss i).1.length v then (setAt ss i).2 else 0) ns := by
      have g := pw_gap (p := P) z ns (64 * W - ns) fun i h1 h2 => by
        cases hpi : P i with
        | false => rfl
        | true => have := hPn i hpi; omega
      rw [show ns + (64 * W - ns) = 64 * W by omega] at g
      rw [g]
      refine sm_congr fun i hi => ?_
      rw [hP, hzz]
      show (if (progB ss ns 0 u i && progB ss ns 0 v i) = true then (setAt ss i).2 else 0) = _
      rw [progB_full ss u hi, progB_full ss v hi]
      rfl
    rw [e]
    exact hpr.out
  have HPB := hid_of (fun k (hk : k < W) => (by rw [hP]; exact PB.both (RU.out k hk).2 (RV.out k hk).2 : PB P k 0 (x u k &&& x v k)))
  have HZI := hid_of (fun i => (congrFun hzz i : z i = (setAt ss i).2))
  clear hpr hP hzz hPn hZ hY hc hp hS hW HIN R1 R2 R3 R4 R5 hT
  generalize zAt Y u = x1 at cu u1 u2 PRE
  generalize zAt Y v = y1 at cv v1 v2 PRE
  have WR : IntKind.i64.wrap (x1 + y1) = x1 + y1 := wrap_id (by omega) (by omega)
  have KD := hid_of ((Kept.refl w).drewN 1)
  have HD1 := hid_of hd1
  have HI := hid_of hi
  have HRU := hid_of ru
  have HRV := hid_of rv
  have hk2 := KD.out.cell hk
  have UB := hid_of (And.intro u1 u2)
  have VB := hid_of (And.intro v1 v2)
  clear ru rv hi hd1
  go_enter Tryd.func111, Tryd.ntmps111
  go_wp2_with fail
  refine Ord.region [(0, 0), (1, 1), (2, 0), (3, 0), (4, 1), (5, 0), (6, 1), (7, 0), (8, 0), (9, 1), (10, 0), (11, 0)] (fun w' => Kept w w') (by kernel_rfl) (by kernel_rfl) (by kernel_rfl) (by kernel_rfl) (fun _ _ d _ _ h => by cases d <;> exact h) ((Kept.refl _).drewN _) ?_
  repeat
    refine Ord.step rfl (fun Ko hK => ?_)
    simp only [Ord.body]
    go_simp
    first
      | (refine hK _ _ ?_; clear hK Ko)
      | (refine ⟨_, fun w' hS => (by have c0 := hS.cell hd; have c1 := hS.cell cu; have c2 := hS.cell cv; simp only [c0, c1, c2, Result.andThen]; rfl), hK _ _ ?_⟩; clear hK Ko)
  refine Ord.done ?_
  clear u1 u2 v1 v2 cu cv hd
  go_wp2_with fail
  go_loopw [8, 9, 10, 23] (fun s _ _ i wr => ∃ (k : Nat), k ≤ W ∧ i = .int .i64 k ∧ s = .int .i64 (x1 + y1 - pw P z (64 * k)) ∧ Kept w wr) (fun _ _ _ i _ => W - (intOf i).toNat)
  case atStart => exact ⟨0, by omega, rfl, by simp [pw, sm], KD.out⟩
  case round =>
    obtain ⟨k, hkW, rfl, rfl, K⟩ := hrel
    have KH := hid_of K
    clear hk2 KD
    by_cases hgo : (k : Int) < (W : Int)
    · have hkw : k < W := by omega
      have a0 := K.cell HI.out
      have a1 := K.cell HRU.out
      have a2 := K.cell HRV.out
      obtain ⟨ru, wu⟩ := RU.out k hkw
      obtain ⟨rv, wv⟩ := RV.out k hkw
      have b1 := K.cell ru
      have b2 := K.cell rv
      have PB0 := hid_of (HPB.out k hkw)
      have AN := u64_and_nat (x u k) (x v k) wu.1 wv.1
      generalize x u k = xu at b1 AN PB0
      generalize x v k = xv at b2 AN PB0
      clear K ru rv wu wv
      go_upto_region 5 with fail
      refine Ord.region [(0, 1), (1, 0), (2, 0), (3, 1), (4, 0), (5, 0), (6, 1), (7, 1), (8, 0), (9, 0), (10, 1), (11, 0), (12, 0), (13, 1), (14, 0), (15, 0)] (fun w' => Kept wr w') (by kernel_rfl) (by kernel_rfl) (by kernel_rfl) (by kernel_rfl) (fun _ _ d _ _ h => by cases d <;> exact h) ((Kept.refl _).drewN _) ?_
      repeat
        refine Ord.step rfl (fun Ko hK => ?_)
        simp only [Ord.body]
        go_simp
        first
          | (refine hK _ _ ?_; clear hK Ko)
          | (refine ⟨_, fun w' hS => (by have c0 := hS.cell a0; have c1 := hS.cell a1; have c2 := hS.cell a2; have c3 := hS.cell b1; have c4 := hS.cell b2; simp only [c0, c1, c2, c3, c4, Result.andThen]; rfl), hK _ _ ?_⟩; clear hK Ko)
          | ((simp only [AN]))
      refine Ord.done ?_
      generalize xu &&& xv = b0 at PB0
      clear a0 a1 a2 b1 b2 AN
      have KD := hid_of (KH.out.trans ((Kept.refl wr).drewN 1))
      clear KH
      obtain ⟨wo, hwo⟩ : ∃ x, x = wr := ⟨_, rfl⟩
      subst hwo
      go_wp2_with fail
      go_loopw [8, 10] (fun s bb w2 => ∃ (t bn : Nat), t ≤ 64 ∧ bb = .int .u64 (bn : Int) ∧ PB P k t bn ∧ s = .int .i64 (x1 + y1 - pw P z (64 * k + t)) ∧ Kept w w2) (fun _ bb _ => (intOf bb).toNat)
      case atStart => exact ⟨0, b0, by omega, rfl, PB0.out, rfl, KD.out⟩
      case round =>
        obtain ⟨t, bn, ht, rfl, pb, rfl, K⟩ := hrel
        have KH := hid_of K
        by_cases hb0 : bn = 0
        · subst hb0
          have DN : Hid (x1 + y1 - pw P z (64 * (k + 1)) = x1 + y1 - pw P z (64 * k + t)) := by show _ = _; rw [PB.done z pb ht]
          clear K pb KD PB0
          generalize pw P z (64 * k + t) = s0 at DN
          go_wp2_with fail
          go_roundw
          case rel => exact ⟨k + 1, by omega, by go_num, by rw [DN.out], KH.out⟩
          case measure => simp [intOf]; omega
        · obtain ⟨j1, j2, j3, j4, j5⟩ := pb.step z hb0
          have TZ := hid_of (fun w' (K' : Kept wr w') => (tz_calls bn pb.1 hb0 w' (HT.out.kept (K.trans K'))).mono (fun e w'' hp => (show e = .returned (.int .i64 ((Lib.ctz 64 bn : Nat) : Int)) ∧ Kept w' w'' from ⟨hp.1, hp.2 ▸ Kept.refl _⟩)))
          have AN := u64_and_nat bn (bn - 1) pb.1 (by have := pb.1; omega)
          have hbx : bn &&& (bn - 1) < bn := by have : bn &&& (bn - 1) ≤ bn - 1 := Nat.and_le_right; omega
          have hb64 := pb.1
          generalize Lib.ctz 64 bn = j at j1 j2 j3 j4 j5 TZ
          generalize bn &&& (bn - 1) = bx at AN hbx j5
          obtain ⟨bm, hbm⟩ : ∃ bm, bn - 1 = bm := ⟨_, rfl⟩
          rw [hbm] at AN
          have WB : IntKind.u64.wrap ((bn : Int) - 1) = (bm : Int) := by rw [IntKind.wrap_u64]; omega
          have in1 := HPN.out _ j3
          obtain ⟨i, hii⟩ : ∃ i, 64 * k + j = i := ⟨_, rfl⟩
          obtain ⟨p1, p2⟩ := PBD.out (64 * k + t)
          obtain ⟨p3, p4⟩ := PBD.out (64 * k + (j + 1))
          have zi := HZI.out i
          rw [hii] at in1 j4
          obtain ⟨b2, off2, hso, hc2⟩ := (HS.out.kept K).cell (by omega)
          obtain ⟨no, nl, nc, -, -, c2⟩ := hc2 i in1
          rw [← zi] at c2
          have d1 := K.cell HD1.out
          rw [hso] at d1
          have WR1 : IntKind.i64.wrap ((k : Int) * 64) = (k : Int) * 64 := wrap_id (by omega) (by omega)
          have WR2 : IntKind.i64.wrap ((k : Int) * 64 + (j : Int)) = (i : Int) := by rw [wrap_id (by omega) (by omega)]; omega
          generalize z i = zc at c2 j4
          obtain ⟨s0, hs0⟩ : ∃ s0, pw P z (64 * k + t) = s0 := ⟨_, rfl⟩
          obtain ⟨s1, hs1⟩ : ∃ s1, pw P z (64 * k + (j + 1)) = s1 := ⟨_, rfl⟩
          rw [hs0] at j4 p1 p2 ⊢
          rw [hs1] at j4 p3 p4
          have HS1 := hid_of hs1
          have UBO := UB.out
          have VBO := VB.out
          have WR3 : IntKind.i64.wrap (x1 + y1 - s0 - zc) = x1 + y1 - s1 := by rw [wrap_id (by omega) (by omega)]; omega
          have PB5 := hid_of j5
          have hbn : ((bn : Int) == 0) = false := by rw [beq_eq_false_iff_ne]; omega
          have hbn2 : ((bn : Int) != 0) = true := by simp; omega
          have HBX := hid_of hbx
          have HJ1 := hid_of j1
          clear K pb KD PB0 hc2 j2 j3 j4 j5 p1 p2 p3 p4 hs0 hs1 zi hbm UBO VBO hii hso hbx j1
          go_upto_region 8 with fail
          refine Ord.region [(0, 0), (1, 0), (2, 1), (3, 0), (4, 0), (5, 0), (6, 2), (7, 0), (8, 0), (9, 0), (10, 1), (11, 0), (12, 0)] (fun w' => Kept wr w') (by kernel_rfl) (by kernel_rfl) (by kernel_rfl) (by kernel_rfl) (fun _ _ d _ _ h => by cases d <;> exact h) ((Kept.refl _).drewN _) ?_
          repeat
            refine Ord.step rfl (fun Ko hK => ?_)
            simp only [Ord.body]
            go_simp
            first
              | (refine hK _ _ ?_; clear hK Ko)
              | (refine ⟨_, fun w' hS => (by have c0 := hS.cell d1; have c1 := hS.cell c2; simp only [c0, c1, Result.andThen]; rfl), hK _ _ ?_⟩; clear hK Ko)
              | (go_at_call 112; refine (TZ.out _ ((Kept.refl _).drewN _)).mono ?_; rintro e wt ⟨rfl, KT⟩; refine ⟨((Kept.refl _).drewN _).trans KT, hK _ _ ?_⟩; clear hK Ko)
              | ((simp only [WR1, WR2, WR3]))
          refine Ord.done ?_
          have KN := hid_of (KH.out.trans (((Kept.refl wr).drewN 1).trans KT))
          clear KT TZ d1 c2
          go_wp2_with (simp only [WB, AN])
          go_roundw
          case rel => exact ⟨j + 1, bx, by have := HJ1.out; omega, by go_num, PB5.out, by rw [HS1.out], KN.out⟩
          case measure => simp [intOf]; have := HBX.out; omega
    · obtain rfl : k = W := by omega
      rw [PRE.out]
      clear K
      go_wp2
      go_ret
      exact ⟨rfl, KH.out⟩
end Go.Proofs.YtpdppjngbbkbbaaDoor
namespace Go.Proofs.YtpdppjngbbkbbaaDoor
open Go.RowKit

theorem MadeAt.step {w : World} {B q N W k : Nat} (h : MadeAt w B q N W k) (hk : k < N) (hB : B ≤ w.heap.size) : MadeAt ((w.alloc (.cells (madeCells #[.int .u64 0] W) 145)).setCell ⟨q, k, none⟩ (.slice (some ⟨w.heap.size, 0, none⟩) W W)) B q N W (k + 1) := by
  obtain ⟨bv, h1, h2, h3, h4⟩ := h.ex
  have hq := h1.lt
  have lt : ∀ v, v < k → bv v < w.heap.size := fun v hv => (h2 v hv).lt
  refine ⟨fun v => if v = k then w.heap.size else bv v, ?_, fun v hv => ?_, fun v hv => ?_, fun v u hv hu e => ?_⟩
  · refine ((h1.alloc _).set k _).congr fun i hi => ?_
    simp only
    by_cases e : i = k
    · subst e; rw [if_pos rfl, if_pos (by omega), if_pos rfl]
    · rw [if_neg e, if_neg e]
      by_cases l : i < k
      · rw [if_pos l, if_pos (by omega)]
      · rw [if_neg l, if_neg (by omega)]
  · simp only
    by_cases e : v = k
    · rw [if_pos e]
      exact (World.rowIs_made w (.int .u64 0) W 145).setOther (by simp only; omega) _
    · rw [if_neg e]
      exact ((h2 v (by omega)).alloc _).setOther (by have := (h3 v (by omega)).1; simpa using this) _
  · simp only
    by_cases e : v = k
    · rw [if_pos e]; omega
    · rw [if_neg e]; exact h3 v (by omega)
  · simp only at e
    by_cases e1 : v = k
    · by_cases e2 : u = k
      · omega
      · rw [if_pos e1, if_neg e2] at e; have := lt u (by omega); omega
    · by_cases e2 : u = k
      · rw [if_neg e1, if_pos e2] at e; have := lt v (by omega); omega
      · rw [if_neg e1, if_neg e2] at e; exact h4 v u (by omega) (by omega) e
theorem MadeAt.kept {w w' : World} {B q N W k : Nat} (h : MadeAt w B q N W k) (K : Kept w w') : MadeAt w' B q N W k := by
  obtain ⟨bv, h1, h2, h3, h4⟩ := h.ex
  exact ⟨bv, h1.of_block (K.block _ h1.lt), fun v hv => (h2 v hv).of_block (K.block _ (h2 v hv).lt), h3, h4⟩

/-- A bit is set. -/
theorem InAt.step {w : World} {B q N W : Nat} {ss : Sets} {s c v0 : Nat} (h : InAt w B q N W (progB ss s c)) (hv : v0 < N) (hs : s / 64 < W) (e : zAt (setAt ss s).1 c = (v0 : Int)) : ∃ b x, w.cell? ⟨q, v0, none⟩ = some (.slice (some ⟨b, 0, none⟩) W W) ∧ w.cell? ⟨b, s / 64, none⟩ = some (.int .u64 ((x : Nat) : Int)) ∧ x < 18446744073709551616 ∧ w.frozen? ⟨b, s / 64, none⟩ = false ∧ b ≠ q ∧ B ≤ b ∧
    ∀ w', Kept w w' → InAt (w'.setCell ⟨b, s / 64, none⟩ (.int .u64 ((x ||| 2 ^ (s % 64) : Nat) : Int))) B q N W (progB ss s (c + 1)) := by
  obtain ⟨bv, x, h1, h2, h3, h4, h5⟩ := h.ex
  refine ⟨bv v0, x v0 (s / 64), h1.cell hv, (h2 v0 hv).cell hs, (h3 v0 _ hv hs).1, World.rowIs.frozen (h2 v0 hv) _, (h4 v0 hv).1, (h4 v0 hv).2, fun w' K => ?_⟩
  have g1 := h1.of_block (K.block _ h1.lt)
  have g2 := fun v (hv : v < N) => (h2 v hv).of_block (K.block _ (h2 v hv).lt)
  refine ⟨bv, fun v k => if v = v0 ∧ k = s / 64 then x v0 (s / 64) ||| 2 ^ (s % 64) else x v k, g1.setOther (by have := (h4 v0 hv).1; simp only; exact fun t => this t.symm) _, fun v hv' => ?_, fun v k hv' hk => ?_, h4, h5⟩
  · by_cases ev : v = v0
    · subst ev
      refine ((g2 v hv).set (s / 64) _).congr fun i hi => ?_
      simp only
      by_cases ei : i = s / 64
      · rw [if_pos ei, if_pos (by simp [ei])]
      · rw [if_neg ei, if_neg (fun t => ei t.2)]
    · refine ((g2 v hv').setOther (by simp only; exact fun t => ev (h5 v v0 hv' hv t)) _).congr fun i hi => ?_
      simp only
      rw [if_neg (fun t => ev t.1)]
  · simp only
    by_cases ev : v = v0 ∧ k = s / 64
    · obtain ⟨rfl, rfl⟩ := ev
      rw [if_pos ⟨rfl, rfl⟩]
      refine (h3 v (s / 64) hv hk).set (Nat.mod_lt _ (by decide)) fun j hj => ?_
      rw [progB_step]
      congr 1
      rw [e]
      simp only [decide_true, Bool.and_true]
      by_cases ej : j = s % 64
      · rw [decide_eq_true ej, decide_eq_true (by omega)]
      · rw [decide_eq_false ej, decide_eq_false (by omega)]
    · rw [if_neg ev]
      refine (h3 v k hv' hk).congr fun j hj => ?_
      rw [progB_step]
      by_cases ei : 64 * k + j = s
      · have : ¬ (v : Int) = zAt (setAt ss s).1 c := fun t => ev ⟨by rw [e] at t; omega, by omega⟩
        rw [decide_eq_false this]; simp
      · rw [decide_eq_false ei]; simp

set_option maxRecDepth 100000 in
set_option linter.unusedSimpArgs false in
set_option maxHeartbeats 4000000 in
theorem pairS_calls (N : Nat) (hN : N ≤ 1024) (yo : Option Addr) (yc : Nat) (Y : List Int) (so : Option Addr) (ns sc : Nat) (ss : Sets) (w : World) (hY : JRow w yo N yc Y) (hS : DRow w so ns sc ss) (hW : WtsOk Y N ss ns N) (hT : Tab w) :
    Calls Tryd.prog 102 #[.agg #[.slice yo N yc, .slice so ns sc], .int .i64 (N : Int)] w fun e w' => ∃ c1 c2 c3, e = .returned (.func (.func 111) #[] #[.pointer (some ⟨c1, 0, none⟩), .pointer (some ⟨c2, 0, none⟩), .pointer (some ⟨c3, 0, none⟩)]) ∧ Kept w w' ∧ Weighs w' #[.pointer (some ⟨c1, 0, none⟩), .pointer (some ⟨c2, 0, none⟩), .pointer (some ⟨c3, 0, none⟩)] N (pairOf Y ss ns) := by
  have hns : ns ≤ 1024 := by have := hW.2.1; omega
  obtain ⟨W, hWd⟩ : ∃ W, (ns + 63) / 64 = W := ⟨_, rfl⟩
  have hB1 : ns ≤ 64 * W := by omega
  have hB2 : W ≤ 16 := by omega
  have hmk : ∀ w : World, (Instr.makeSlice 143 (.int .i64 (N : Int)) (.int .i64 (N : Int))).run Tryd.prog w = .ok (.slice (some ⟨w.heap.size, 0, none⟩) N N) (w.alloc (.cells (madeCells #[.slice none 0 0] N) 144)) :=
    fun w => run_make_row' 143 144 (.slice none 0 0) 24 Tryd.underlying143 infoW0 rfl .i64 .i64 N (by omega) (by omega) w
  have hmk2 : ∀ w : World, (Instr.makeSlice 144 (.int .i64 (W : Int)) (.int .i64 (W : Int))).run Tryd.prog w = .ok (.slice (some ⟨w.heap.size, 0, none⟩) W W) (w.alloc (.cells (madeCells #[.int .u64 0] W) 145)) :=
    fun w => run_make_row' 144 145 (.int .u64 0) 8 Tryd.underlying144 infoU0 rfl .i64 .i64 W (by omega) (by omega) w
  have HY := hid_of hY
  have HS := hid_of hS
  have HW := hid_of hW
  have HT := hid_of hT
  have TDE : ((ns : Int) + 64 - 1) / 64 = (W : Int) := by omega
  clear hY hS hW hT
  have KW : Kept w ((w.alloc (Obj.cells #[.slice yo N yc, .slice so ns sc] 45)).alloc (Obj.cells #[.int .i64 (W : Int)] 3)) := ((Kept.refl w).alloc _).alloc _
  have w0 : ((w.alloc (Obj.cells #[.slice yo N yc, .slice so ns sc] 45)).alloc (Obj.cells #[.int .i64 (W : Int)] 3)).cell? ⟨w.heap.size, 0, none⟩ = some (.slice yo N yc) := by simp [go_sem]
  have w1 : ((w.alloc (Obj.cells #[.slice yo N yc, .slice so ns sc] 45)).alloc (Obj.cells #[.int .i64 (W : Int)] 3)).cell? ⟨w.heap.size, 1, none⟩ = some (.slice so ns sc) := by simp [go_sem]
  have w2 : ((w.alloc (Obj.cells #[.slice yo N yc, .slice so ns sc] 45)).alloc (Obj.cells #[.int .i64 (W : Int)] 3)).cell? ⟨w.heap.size + 1, 0, none⟩ = some (.int .i64 (W : Int)) := by simp [go_sem]
  go_enter Tryd.func102, Tryd.ntmps102
  go_upto_region 2 with fail
  generalize hW1 : (w.alloc (Obj.cells #[.slice yo N yc, .slice so ns sc] 45)).alloc (Obj.cells #[.int .i64 (W : Int)] 3) = W1 at KW w0 w1 w2
  have hz1 : W1.heap.size = w.heap.size + 2 := by rw [← hW1]; simp
  clear hW1 TDE hWd
  obtain ⟨db, hdb⟩ : ∃ db, w.heap.size = db := ⟨_, rfl⟩
  obtain ⟨q, hq⟩ : ∃ q, W1.heap.size = q := ⟨_, rfl⟩
  rw [hdb] at w0 w1 w2
  have hqd : db + 1 < q := by omega
  have hwq : w.heap.size ≤ q := by omega
  have KM : Kept W1 ((W1.alloc (.cells (madeCells #[.slice none 0 0] N) 144)).alloc (Obj.cells #[.slice (some ⟨q, 0, none⟩) N N] 143)) := ((Kept.refl W1).alloc _).alloc _
  have R0 : MadeAt ((W1.alloc (.cells (madeCells #[.slice none 0 0] N) 144)).alloc (Obj.cells #[.slice (some ⟨q, 0, none⟩) N N] 143)) (q + 2) q N W 0 := by
    refine ⟨fun _ => 0, ?_, fun v hv => by omega, fun v hv => by omega, fun v u hv => by omega⟩
    rw [← hq]
    exact (((World.rowIs_made W1 (.slice none 0 0) N 144).alloc _).congr fun i hi => by rw [if_neg (by omega)])
  have b0 : ((W1.alloc (.cells (madeCells #[.slice none 0 0] N) 144)).alloc (Obj.cells #[.slice (some ⟨q, 0, none⟩) N N] 143)).cell? ⟨q + 1, 0, none⟩ = some (.slice (some ⟨q, 0, none⟩) N N) := by simp [go_sem, ← hq]
  rw [hdb]
  clear hz1
  replace w0 := KM.cell w0
  replace w1 := KM.cell w1
  replace w2 := KM.cell w2
  have HKW := hid_of (KW.trans KM)
  go_upto_region 3 with fail
  generalize (W1.alloc (.cells (madeCells #[.slice none 0 0] N) 144)).alloc (Obj.cells #[.slice (some ⟨q, 0, none⟩) N N] 143) = W2 at w0 w1 w2 HKW R0 b0 ⊢
  have R0H := hid_of R0
  have HWD := hid_of hdb
  clear hmk KM KW hq R0 hdb
  go_wp2_with fail
  go_loopw [7, 22] (fun _ i wr => ∃ (k : Nat), k ≤ N ∧ i = .int .i64 k ∧ Kept w wr ∧ MadeAt wr (q + 2) q N W k ∧ wr.cell? ⟨q + 1, 0, none⟩ = some (.slice (some ⟨q, 0, none⟩) N N) ∧ wr.cell? ⟨db, 0, none⟩ = some (.slice yo N yc) ∧ wr.cell? ⟨db, 1, none⟩ = some (.slice so ns sc) ∧ wr.cell? ⟨db + 1, 0, none⟩ = some (.int .i64 (W : Int))) (fun _ i _ => N - (intOf i).toNat)
  case atStart => exact ⟨0, by omega, rfl, HKW.out, R0H.out, b0, w0, w1, w2⟩
  case round =>
    obtain ⟨k, hk, rfl, K, R, b0, w0, w1, w2⟩ := hrel
    have KH := hid_of K
    have RH := hid_of R
    clear HKW R0H K R
    by_cases hgo : (k : Int) < (N : Int)
    · have hkN : k < N := by omega
      have lq : q + 1 < wr.heap.size := lt_cell b0
      have hq1 : ¬ wr.heap.size = q := by omega
      have KD : Kept wr (wr.drewN 1) := (Kept.refl wr).drewN 1
      have KDA : Kept wr ((wr.drewN 1).alloc (.cells (madeCells #[.int .u64 0] W) 145)) := KD.alloc _
      have RN := (RH.out.kept KD).step hkN (show q + 2 ≤ (wr.drewN 1).heap.size by simp; omega)
      obtain ⟨bv, hR1, -, -, -⟩ := (RH.out.kept KDA).ex
      have c1 := hR1.cell hkN
      have f1 := World.rowIs.frozen hR1 k
      rw [if_neg (by omega)] at c1
      go_wp2_with fail
      refine Ord.regionZ 5 [(0, 1), (1, 0), (2, 1), (3, 2), (4, 0), (5, 3)] (fun w' => Kept wr w') (by kernel_rfl) (by kernel_rfl) (by kernel_rfl) (by kernel_rfl) (fun _ _ d _ _ h => by cases d <;> exact h) ((Kept.refl _).drewN _) ?_
      repeat
        refine Ord.stepZ rfl (fun Ko hK => ?_)
        simp only [Ord.bodyZ, Ord.body]
        go_simp
        first
          | (refine hK _ _ ?_; clear hK Ko)
          | (refine ⟨((Kept.refl _).drewN _).alloc _, hK _ _ ?_⟩; clear hK Ko)
          | (refine ⟨_, fun w' hS => (by have c0 := hS.cell b0; simp only [c0, Result.andThen]; rfl), hK _ _ ?_⟩; clear hK Ko)
          | (refine ⟨_, fun w' hS => (by have c0 := hS.cell w2; simp only [c0, Result.andThen]; rfl), hK _ _ ?_⟩; clear hK Ko)
      refine Ord.doneZ ?_
      have RS := hid_of RN
      have KS : Hid (Kept w (((wr.drewN 1).alloc (Obj.cells (madeCells #[Value.int IntKind.u64 0] W) 145)).setCell ⟨q, k, none⟩ (.slice (some ⟨wr.heap.size, 0, none⟩) W W))) := (KH.out.trans KDA).setCell (p := ⟨q, k, none⟩) hwq _
      have B0 := hid_of (cell_put (i := k) (u := .slice (some ⟨wr.heap.size, 0, none⟩) W W) (KDA.cell b0) (by omega : ¬ q + 1 = q))
      have D0 := hid_of (cell_put (i := k) (u := .slice (some ⟨wr.heap.size, 0, none⟩) W W) (KDA.cell w0) (by omega : ¬ db = q))
      have D1 := hid_of (cell_put (i := k) (u := .slice (some ⟨wr.heap.size, 0, none⟩) W W) (KDA.cell w1) (by omega : ¬ db = q))
      have D2 := hid_of (cell_put (i := k) (u := .slice (some ⟨wr.heap.size, 0, none⟩) W W) (KDA.cell w2) (by omega : ¬ db + 1 = q))
      have esz : (wr.drewN 1).heap.size = wr.heap.size := rfl
      rw [esz] at RS
      clear c1 f1 RN KDA KD w0 w1 w2 b0 hR1 esz
      generalize ((wr.drewN 1).alloc (Obj.cells (madeCells #[Value.int IntKind.u64 0] W) 145)).setCell ⟨q, k, none⟩ (.slice (some ⟨wr.heap.size, 0, none⟩) W W) = W9 at RS KS B0 D0 D1 D2 ⊢
      go_wp2_with fail
      go_roundw
      case rel => exact ⟨k + 1, by omega, by go_num, KS.out, RS.out, B0.out, D0.out, D1.out, D2.out⟩
      case measure => simp [intOf]; omega
    · obtain rfl : k = N := by omega
      have IN0 := hid_of (RH.out.done ss)
      have W0H := hid_of w0
      have W1H := hid_of w1
      have W2H := hid_of w2
      have B0H := hid_of b0
      obtain ⟨wo, hwo⟩ : ∃ x, x = wr := ⟨_, rfl⟩
      subst hwo
      clear RH b0 w0 w2
      go_wp2_with fail
      go_loopw [8, 9, 11, 34, 42] (fun _ _ _ i _ wr => ∃ (s : Nat), s ≤ ns ∧ i = .int .i64 s ∧ Kept w wr ∧ InAt wr (q + 2) q k W (progB ss s 0) ∧ wr.cell? ⟨q + 1, 0, none⟩ = some (.slice (some ⟨q, 0, none⟩) k k) ∧ wr.cell? ⟨db, 0, none⟩ = some (.slice yo k yc) ∧ wr.cell? ⟨db, 1, none⟩ = some (.slice so ns sc) ∧ wr.cell? ⟨db + 1, 0, none⟩ = some (.int .i64 (W : Int))) (fun _ _ _ i _ _ => ns - (intOf i).toNat)
      case atStart => exact ⟨0, by omega, rfl, KH.out, IN0.out, B0H.out, W0H.out, W1H.out, W2H.out⟩
      case round =>
        obtain ⟨s, hs, rfl, K, R, b0, w0, w1, w2⟩ := hrel
        have KH2 := hid_of K
        have RH := hid_of R
        have B0 := hid_of b0
        have D0 := hid_of w0
        have D1 := hid_of w1
        have D2 := hid_of w2
        clear KH IN0 W0H W1H W2H B0H K R b0 w0 w1 w2
        by_cases hgo2 : (s : Int) < (ns : Int)
        · have hsn : s < ns := by omega
          obtain ⟨b, off, hso, hc⟩ := HS.out.cell (by omega)
          obtain ⟨no, nl, nc, c1, J, c2⟩ := hc s hsn
          have SOK := HW.out.2.2 s hsn
          obtain ⟨sx, hsx⟩ : ∃ x, setAt ss s = x := ⟨_, rfl⟩
          rw [hsx] at J c2 SOK
          obtain ⟨nds, z⟩ := sx
          simp only at J c2
          have RIS := hid_of SOK.1
          have HSX : Hid ((setAt ss s).1 = nds) := by show _ = _; rw [hsx]
          simp only at RIS
          have HLN := hid_of J.len
          have hnr := J.room
          have hnm := J.most
          unfold maxLen at hnm
          have JW := hid_of J
          replace c1 := KH2.out.cell c1
          replace c2 := KH2.out.cell c2
          have d1 := D1.out
          rw [hso] at d1
          have KB : Kept wr (wr.alloc (Obj.cells #[.slice no nl nc, .int .i64 z] 110)) := (Kept.refl wr).alloc _
          obtain ⟨eb, heb⟩ : ∃ eb, wr.heap.size = eb := ⟨_, rfl⟩
          have a0 : (wr.alloc (Obj.cells #[.slice no nl nc, .int .i64 z] 110)).cell? ⟨eb, 0, none⟩ = some (.slice no nl nc) := by simp [go_sem, ← heb]
          have K3 := hid_of (KH2.out.trans KB)
          have R3 := hid_of (RH.out.kept KB)
          have B3 := hid_of (KB.cell B0.out)
          have E0 := hid_of (KB.cell D0.out)
          have E1 := hid_of (KB.cell D1.out)
          have E2 := hid_of (KB.cell D2.out)
          clear hc J SOK hsx
          subst hso
          go_upto_region 11 with fail
          generalize wr.alloc (Obj.cells #[.slice no nl nc, .int .i64 z] 110) = W3 at a0 K3 R3 B3 E0 E1 E2 ⊢
          clear c1 c2 KB d1 heb KH2 RH B0 D0 D1 D2
          go_wp2_with fail
          go_loopw [11, 42] (fun _ i wr => ∃ (c : Nat), c ≤ nl ∧ i = .int .i64 c ∧ Kept w wr ∧ InAt wr (q + 2) q k W (progB ss s c) ∧ wr.cell? ⟨q + 1, 0, none⟩ = some (.slice (some ⟨q, 0, none⟩) k k) ∧ wr.cell? ⟨db, 0, none⟩ = some (.slice yo k yc) ∧ wr.cell? ⟨db, 1, none⟩ = some (.slice (some ⟨b, off, none⟩) ns sc) ∧ wr.cell? ⟨db + 1, 0, none⟩ = some (.int .i64 (W : Int))) (fun _ i _ => nl - (intOf i).toNat)
          case atStart => exact ⟨0, by omega, rfl, K3.out, R3.out, B3.out, E0.out, E1.out, E2.out⟩
          case round =>
            obtain ⟨c, hcl, rfl, K, R, b0, w0, w1, w2⟩ := hrel
            have KH := hid_of K
            have RH := hid_of R
            have D0 := hid_of w0
            have D1 := hid_of w1
            have D2 := hid_of w2
            clear K3 R3 B3 E0 E1 E2 R w0 w1 w2 a0
            by_cases hgo3 : (c : Int) < (nl : Int)
            · obtain ⟨b4, off4, hno, hc4⟩ := (JW.out.kept K).at (by omega)
              have d4 := hc4 c (by omega)
              obtain ⟨y1, y2⟩ := RIS.out.rng (j := c) (by rw [← HLN.out]; omega)
              obtain ⟨v0, hv0⟩ : ∃ v : Nat, zAt nds c = (v : Int) := ⟨(zAt nds c).toNat, by omega⟩
              have hvk : v0 < k := by omega
              obtain ⟨bb, x, r1, r2, hx, fz, hbq, hbB, ST⟩ := RH.out.step (v0 := v0) hvk (by omega) (by rw [HSX.out]; exact hv0)
              have STH := hid_of ST
              rw [hv0] at d4
              obtain ⟨sq, hsq⟩ : ∃ sq, s / 64 = sq := ⟨_, rfl⟩
              obtain ⟨sr, hsr⟩ : ∃ sr, s % 64 = sr := ⟨_, rfl⟩
              rw [hsq] at r2 fz STH
              rw [hsr] at STH
              have hsr64 : sr < 64 := by omega
              have TD : (s : Int).tdiv 64 = (sq : Int) := by rw [Int.tdiv_eq_ediv_of_nonneg (by omega)]; omega
              have TM : (s : Int).tmod 64 = (sr : Int) := by rw [Int.tmod_eq_emod_of_nonneg (by omega)]; omega
              have hsqW : sq < W := by omega
              have P2 : 2 ^ sr < 18446744073709551616 := Nat.pow_lt_pow_right (a := 2) (m := sr) (n := 64) (by decide) hsr64
              obtain ⟨p2, hp2⟩ : ∃ p2, 2 ^ sr = p2 := ⟨_, rfl⟩
              have E2 : ((2 : Int) ^ sr) = (p2 : Int) := by rw [← hp2]; simp
              rw [hp2] at STH P2
              have OR := u64_or_nat x p2 hx P2
              have WRS : IntKind.u64.wrap ((2 : Int) ^ sr) = (p2 : Int) := by rw [E2, IntKind.wrap_u64]; omega
              clear E2 hp2
              have TD2a : sq = s / 64 := hsq.symm
              clear K hc4 y1 y2 hv0 ST hsr
              subst hno
              have TD2 : (s : Int) / 64 = (sq : Int) := by omega
              clear hsq TD2a
              have WRQ : IntKind.i64.wrap (sq : Int) = (sq : Int) := wrap_id (by omega) (by omega)
              have WRR : IntKind.i64.wrap (sr : Int) = (sr : Int) := wrap_id (by omega) (by omega)
              go_upto_region 14 with fail
              refine Ord.regionZ 13 [(0, 1), (1, 0), (2, 0), (3, 1), (4, 0), (5, 0), (6, 0), (7, 1), (8, 0), (9, 0), (10, 0), (11, 0), (12, 0), (13, 3)] (fun w' => Kept wr w') (by kernel_rfl) (by kernel_rfl) (by kernel_rfl) (by kernel_rfl) (fun _ _ d _ _ h => by cases d <;> exact h) ((Kept.refl _).drewN _) ?_
              repeat
                refine Ord.stepZ rfl (fun Ko hK => ?_)
                simp only [Ord.bodyZ, Ord.body]
                go_simp
                first
                  | (refine hK _ _ ?_; clear hK Ko)
                  | (refine ⟨(Kept.refl _).drewN _, hK _ _ ?_⟩; clear hK Ko)
                  | (refine ⟨_, fun w' hS => (by have c0 := hS.cell b0; simp only [c0, Result.andThen]; rfl), hK _ _ ?_⟩; clear hK Ko)
                  | (refine ⟨_, fun w' hS => (by have c0 := hS.cell r1; simp only [c0, Result.andThen]; rfl), hK _ _ ?_⟩; clear hK Ko)
                  | (refine ⟨_, fun w' hS => (by have c0 := hS.cell r2; simp only [c0, Result.andThen]; rfl), hK _ _ ?_⟩; clear hK Ko)
              refine Ord.doneZ ?_
              have KD : Kept wr (wr.drewN 1) := (Kept.refl wr).drewN 1
              have RS := hid_of (STH.out (wr.drewN 1) KD)
              have KS : Hid (Kept w ((wr.drewN 1).setCell ⟨bb, sq, none⟩ (.int .u64 ((x ||| p2 : Nat) : Int)))) := (KH.out.trans KD).setCell (p := ⟨bb, sq, none⟩) (by simp only; omega) _
              have F0 := hid_of (cell_put (i := sq) (u := .int .u64 ((x ||| p2 : Nat) : Int)) (KD.cell b0) (by omega : ¬ q + 1 = bb))
              have F1 := hid_of (cell_put (i := sq) (u := .int .u64 ((x ||| p2 : Nat) : Int)) (KD.cell D0.out) (by omega : ¬ db = bb))
              have F2 := hid_of (cell_put (i := sq) (u := .int .u64 ((x ||| p2 : Nat) : Int)) (KD.cell D1.out) (by omega : ¬ db = bb))
              have F3 := hid_of (cell_put (i := sq) (u := .int .u64 ((x ||| p2 : Nat) : Int)) (KD.cell D2.out) (by omega : ¬ db + 1 = bb))
              clear KD RH STH D0 D1 D2 b0 r1 r2 fz OR WRS TD TD2 TM WRQ WRR d4
              generalize (wr.drewN 1).setCell ⟨bb, sq, none⟩ (.int .u64 ((x ||| p2 : Nat) : Int)) = W9 at RS KS F0 F1 F2 F3 ⊢
              go_wp2_with fail
              go_roundw
              case rel => exact ⟨c + 1, by omega, by go_num, KS.out, RS.out, F0.out, F1.out, F2.out, F3.out⟩
              case measure => simp [intOf]; omega
            · obtain rfl : c = nl := by omega
              have RN : Hid (InAt wr (q + 2) q k W (progB ss (s + 1) 0)) := RH.out.congr fun v i => by rw [progB_next, HSX.out, HLN.out]
              clear K RH
              go_wp2_with fail
              go_roundw
              case rel => exact ⟨s + 1, by omega, by go_num, KH.out, RN.out, b0, D0.out, D1.out, D2.out⟩
              case measure => simp [intOf]; omega
        · obtain rfl : s = ns := by omega
          go_wp2
          go_ret
          refine ⟨db, db + 1, q + 1, rfl, KH2.out, fun w3 K3 u v hu hv => ?_⟩
          exact weightS_calls k hN yo yc Y so s sc ss db (db + 1) (q + 1) q W (q + 2) u v w3 (HY.out.kept (KH2.out.trans K3)) (HS.out.kept (KH2.out.trans K3)) HW.out (K3.cell D0.out) (K3.cell D1.out) (K3.cell D2.out) (K3.cell B0.out) (RH.out.kept K3) hB1 hB2 (HT.out.kept (KH2.out.trans K3)) hu hv _ (hid_of rfl)

/-- pairWeights does what it must. -/
theorem pairW_sets (N : Nat) (hN : N ≤ 1024) (yo : Option Addr) (my yc : Nat) (Y : List Int) (so : Option Addr) (ns sc : Nat) (ss : Sets) (w : World) (hY : JRow w yo my yc Y) (hS : DRow w so ns sc ss) (hT : Tab w) : PairW w yo my yc Y so ns sc ss N (pairOf Y ss ns) := fun ok w1 K => by
  obtain rfl : my = N := ok.1.1
  exact pairS_calls my hN yo yc Y so ns sc ss w1 (hY.kept K) (hS.kept K) ok (hT.kept K)
end Go.Proofs.YtpdppjngbbkbbaaDoor
