/- partsFrom: the function that it hands to the flood; the list of nodes; parts by their numbers. -/
import Derived.Test.YtjheiaegpoppaaaPaB
namespace Go.Proofs.Ytjheiaegpoppaaa
open Go.RowKit

set_option maxRecDepth 100000 in
set_option maxHeartbeats 2000000 in
theorem pcl_enters (Wb : World) (gl n bx br r : Nat) (hb : Wb.cell? ⟨bx, 0, none⟩ = some (.slice (some ⟨gl, 0, none⟩) n n)) (hr : Wb.cell? ⟨br, 0, none⟩ = some (.int .i64 (r : Int))) (hne : ¬ bx = gl) (hne2 : ¬ br = gl) : Enters 52 #[.pointer (some ⟨bx, 0, none⟩), .pointer (some ⟨br, 0, none⟩)] Wb gl n (cval r) (fun _ => True) := by
  intro w lv v x HI C hv hx hpos hok
  have b0 := C.cell hb hne
  have r0 := C.cell hr hne2
  have cx := HI.cell hx
  have fx := World.rowIs.frozen HI x
  have hxi : (x : Int) < (n : Int) := by omega
  by_cases hneg : lv x < 0
  · rw [if_pos hneg]
    have hd : decide (lv x < 0) = true := by simp [hneg]
    rw [hd]
    have IN : Hid (IntsAt (w.setCell ⟨gl, x, none⟩ (.int .i64 (r : Int))) gl n (fun j => if j = x then cval r lv v else lv j)) := IntsAt.set HI x (r : Int)
    have CN : Hid (Ch (fun k => k = gl) w (w.setCell ⟨gl, x, none⟩ (.int .i64 (r : Int)))) := (Ch.refl (fun k => k = gl) w).setCell (F := fun k => k = gl) (p := ⟨gl, x, none⟩) rfl _
    have hge : ¬ 0 ≤ lv x := by omega
    generalize lv x = lx at cx hneg hge
    show Calls Try.prog 52 #[.int .i64 (v : Int), .int .i64 (x : Int), .pointer (some ⟨bx, 0, none⟩), .pointer (some ⟨br, 0, none⟩)] w _
    clear HI C hok hb hd hr
    go_enter Try.func52, Try.ntmps52
    go_wp2_with fail
    go_ret
    exact ⟨rfl, IN.out, CN.out⟩
  · rw [if_neg hneg]
    have hd : decide (lv x < 0) = false := by simp [hneg]
    rw [hd]
    have HIH := hid_of HI
    have hge : 0 ≤ lv x := by omega
    show Calls Try.prog 52 #[.int .i64 (v : Int), .int .i64 (x : Int), .pointer (some ⟨bx, 0, none⟩), .pointer (some ⟨br, 0, none⟩)] w _
    clear HI C hok
    go_enter Try.func52, Try.ntmps52
    go_wp2_with fail
    go_ret
    exact ⟨rfl, HIH.out, Ch.refl _ _⟩

set_option maxRecDepth 100000 in
set_option maxHeartbeats 2000000 in
theorem upTo_calls (n : Nat) (hn : n ≤ 1024) (w : World) :
    Calls Try.prog 36 #[.int .i64 (n : Int)] w fun r w' => ∃ g, r = .returned (.slice (some ⟨g, 0, none⟩) n n) ∧ IntsAt w' g n (fun v => (v : Int)) ∧ Kept w w' ∧ w.heap.size ≤ g := by
  have hmkI : ∀ w : World, (Instr.makeSlice 26 (.int .i64 (n : Int)) (.int .i64 (n : Int))).run Try.prog w = .ok (.slice (some ⟨w.heap.size, 0, none⟩) n n) (w.alloc (.cells (madeCells #[.int .i64 0] n) 3)) :=
    fun w => run_make_row' 26 3 (.int .i64 0) 8 Try.underlying26 infoJ0 rfl .i64 .i64 n (by omega) (by omega) w
  have I1 := World.rowIs_made w (.int .i64 0) n 3
  have K1 : Kept w (w.alloc (.cells (madeCells #[.int .i64 0] n) 3)) := (Kept.refl w).alloc _
  have I1H : Hid (IntsAt (w.alloc (.cells (madeCells #[.int .i64 0] n) 3)) w.heap.size n (fun v => if v < 0 then (v : Int) else 0)) := World.rowIs.congr I1 (fun i _ => by simp)
  have K1H := hid_of K1
  clear I1 K1
  go_enter Try.func36, Try.ntmps36
  go_upto_region 2 with fail
  generalize hW1 : w.alloc (.cells (madeCells #[.int .i64 0] n) 3) = W1 at *
  clear hW1 hmkI
  obtain ⟨g, hg⟩ : ∃ g, w.heap.size = g := ⟨_, rfl⟩
  rw [hg] at I1H ⊢
  have HG := hid_of hg
  clear hg
  go_wp2_with fail
  go_loopw [9] (fun i wr => ∃ k : Nat, k ≤ n ∧ i = .int .i64 (k : Int) ∧ IntsAt wr g n (fun v => if v < k then (v : Int) else 0) ∧ Kept w wr) (fun i _ => n - (intOf i).toNat)
  case atStart => exact ⟨0, by omega, rfl, I1H.out, K1H.out⟩
  case round =>
    obtain ⟨k, hk, rfl, I2, K2⟩ := hrel
    clear I1H K1H
    by_cases hgo : (k : Int) < (n : Int)
    · have hkn : k < n := by omega
      have ck := I2.cell hkn
      have fk := World.rowIs.frozen I2 k
      have IN : Hid (IntsAt (wr.setCell ⟨g, k, none⟩ (.int .i64 (k : Int))) g n (fun v => if v < k + 1 then (v : Int) else 0)) := (IntsAt.set I2 k (k : Int)).congr (fun v _ => by
        dsimp only
        by_cases e : v = k
        · rw [if_pos e, if_pos (by omega), e]
        · by_cases e2 : v < k
          · rw [if_neg e, if_pos e2, if_pos (by omega)]
          · rw [if_neg e, if_neg e2, if_neg (by omega)])
      have KN : Hid (Kept w (wr.setCell ⟨g, k, none⟩ (.int .i64 (k : Int)))) := K2.setCell (p := ⟨g, k, none⟩) (by rw [HG.out]; exact Nat.le_refl _) _
      generalize (if k < k then (k : Int) else 0) = z0 at ck
      clear I2 K2
      go_wp2_with fail
      go_roundw
      case rel => exact ⟨k + 1, by omega, by go_num, IN.out, KN.out⟩
      case measure => simp [intOf]; omega
    · obtain rfl : k = n := by omega
      have FI : Hid (IntsAt wr g k (fun v => (v : Int))) := World.rowIs.congr I2 (fun v hv => by dsimp only; rw [if_pos hv])
      have FK := hid_of K2
      clear I2 K2
      go_wp2_with fail
      go_ret
      exact ⟨g, rfl, FI.out, FK.out, by rw [HG.out]; exact Nat.le_refl _⟩

theorem unset2b (n : Nat) (hn : n ≤ 1024) (w : World) :
    Calls Try.prog 28 #[.int .i64 (n : Int)] w fun r w' => ∃ g, r = .returned (.slice (some ⟨g, 0, none⟩) n n) ∧ IntsAt w' g n (fun _ => -1) ∧ Kept w w' ∧ w.heap.size ≤ g :=
  (unset_calls n hn w).mono fun _ _ h => ⟨_, h.1, h.2.1, h.2.2, Nat.le_succ _⟩

/-- The numbers given so far, how many, and what each of the first nodes gets. -/
structure NSt where
  nb : Nat → Int
  cnt : Int
def nst (p : Nat → Nat) : Nat → NSt
  | 0 => ⟨fun _ => -1, 0⟩
  | v + 1 => if (nst p v).nb (p v) < 0 then ⟨fun x => if x = p v then (nst p v).cnt else (nst p v).nb x, (nst p v).cnt + 1⟩ else nst p v
def ncl (p : Nat → Nat) (v : Nat) : Int := (nst p (v + 1)).nb (p v)

theorem nst_inv (p : Nat → Nat) : ∀ v, (0 ≤ (nst p v).cnt ∧ (nst p v).cnt ≤ (v : Int)) ∧ (∀ x, (∀ u, u < v → p u ≠ x) → (nst p v).nb x = -1) ∧ (∀ u, u < v → 0 ≤ (nst p v).nb (p u) ∧ (nst p v).nb (p u) = ncl p u) := by
  intro v
  induction v with
  | zero => exact ⟨⟨by show (0 : Int) ≤ 0; omega, by show (0 : Int) ≤ 0; omega⟩, fun _ _ => rfl, fun u hu => absurd hu (Nat.not_lt_zero _)⟩
  | succ v ih =>
    obtain ⟨a, b, c⟩ := ih
    by_cases h : (nst p v).nb (p v) < 0
    · have e : nst p (v + 1) = ⟨fun x => if x = p v then (nst p v).cnt else (nst p v).nb x, (nst p v).cnt + 1⟩ := by show (if _ then _ else _) = _; rw [if_pos h]
      have self : (nst p (v + 1)).nb (p v) = (nst p v).cnt := by rw [e]; dsimp only; rw [if_pos rfl]
      refine ⟨by rw [e]; dsimp only; omega, fun x hx => ?_, fun u hu => ?_⟩
      · rw [e]; dsimp only
        rw [if_neg (fun t => hx v (by omega) t.symm)]
        exact b x (fun u hu => hx u (by omega))
      · by_cases eu : u = v
        · subst eu; exact ⟨by rw [self]; exact a.1, rfl⟩
        · have hc := c u (by omega)
          have ne : p u ≠ p v := fun t => by rw [t] at hc; omega
          have e2 : (nst p (v + 1)).nb (p u) = (nst p v).nb (p u) := by rw [e]; dsimp only; rw [if_neg ne]
          rw [e2]; exact hc
    · have e : nst p (v + 1) = nst p v := by show (if _ then _ else _) = _; rw [if_neg h]
      refine ⟨by rw [e]; omega, fun x hx => by rw [e]; exact b x (fun u hu => hx u (by omega)), fun u hu => ?_⟩
      by_cases eu : u = v
      · subst eu; exact ⟨by rw [e]; omega, rfl⟩
      · rw [e]; exact c u (by omega)

theorem ncl_num (p : Nat → Nat) (n : Nat) : NumOf n (fun u v => p u = p v) (ncl p) (fun v => (nst p v).cnt) := by
  refine ⟨rfl, fun v hv hn => ?_, fun v hv u hu hr => ?_⟩
  · obtain ⟨a, b, c⟩ := nst_inv p v
    have h : (nst p v).nb (p v) < 0 := by rw [b (p v) (fun u hu => hn u hu)]; omega
    have e : nst p (v + 1) = ⟨fun x => if x = p v then (nst p v).cnt else (nst p v).nb x, (nst p v).cnt + 1⟩ := by show (if _ then _ else _) = _; rw [if_pos h]
    refine ⟨?_, by show (nst p (v + 1)).cnt = _; rw [e]⟩
    unfold ncl
    rw [e]; dsimp only; rw [if_pos rfl]
  · obtain ⟨a, b, c⟩ := nst_inv p v
    have hc := c u hu
    have h : ¬ (nst p v).nb (p v) < 0 := by rw [← hr]; omega
    have e : nst p (v + 1) = nst p v := by show (if _ then _ else _) = _; rw [if_neg h]
    refine ⟨?_, by show (nst p (v + 1)).cnt = _; rw [e]⟩
    unfold ncl
    rw [e, ← hr]
    exact hc.2

set_option maxRecDepth 100000 in
set_option maxHeartbeats 2000000 in
theorem numbered_calls (n : Nat) (hn : n ≤ 1024) (p : Nat → Nat) (hp : Hid (∀ v, v < n → p v < n)) (g : Nat) (w : World) (h : IntsAt w g n (fun v => (p v : Int))) :
    Calls Try.prog 53 #[.slice (some ⟨g, 0, none⟩) n n] w fun r w' => r = .returned (.slice (some ⟨g, 0, none⟩) n n) ∧ IntsAt w' g n (ncl p) ∧ Ch (fun k => k = g) w w' := by
  have UC := hid_of (unset_calls n hn w)
  have hgw := h.lt
  have HH := hid_of h
  clear h
  go_enter Try.func53, Try.ntmps53
  go_wp2_with fail
  refine UC.out.mono ?_
  rintro r w1 ⟨rfl, I1, K1⟩
  obtain ⟨gn, hgn⟩ : ∃ gn, w.heap.size + 1 = gn := ⟨_, rfl⟩
  rw [hgn] at I1 ⊢
  have dgn : ¬ g = gn := by omega
  have P1 : Hid (IntsAt w1 g n (fun v => if v < 0 then ncl p v else (p v : Int))) := World.rowIs.congr (HH.out.kept K1) (fun v _ => by simp)
  have N1 : Hid (IntsAt w1 gn n (nst p 0).nb) := I1
  have C1 : Hid (Ch (fun k => k = g) w w1) := Ch.of_kept K1
  have hgnw : w.heap.size ≤ gn := by omega
  clear I1 K1 HH UC hgn
  go_wp2_with fail
  go_loopw [4, 12] (fun c i wr => ∃ k : Nat, k ≤ n ∧ i = .int .i64 (k : Int) ∧ c = .int .i64 (nst p k).cnt ∧ IntsAt wr g n (fun v => if v < k then ncl p v else (p v : Int)) ∧ IntsAt wr gn n (nst p k).nb ∧ Ch (fun k => k = g) w wr) (fun _ i _ => n - (intOf i).toNat)
  case atStart => exact ⟨0, by omega, rfl, rfl, P1.out, N1.out, C1.out⟩
  case round =>
    obtain ⟨k, hk, rfl, rfl, IP, IN, C⟩ := hrel
    clear P1 N1 C1
    by_cases hgo : (k : Int) < (n : Int)
    · have hkn : k < n := by omega
      have cp := IP.cell hkn
      rw [if_neg (by omega)] at cp
      have fp := World.rowIs.frozen IP k
      have hpk := hp.out k hkn
      have hpi : (p k : Int) < (n : Int) := by omega
      have cn := IN.cell hpk
      have fn := World.rowIs.frozen IN (p k)
      have INV := (nst_inv p k).1
      by_cases hneg : (nst p k).nb (p k) < 0
      · have e : nst p (k + 1) = ⟨fun x => if x = p k then (nst p k).cnt else (nst p k).nb x, (nst p k).cnt + 1⟩ := by show (if _ then _ else _) = _; rw [if_pos hneg]
        have ec : ncl p k = (nst p k).cnt := by unfold ncl; rw [e]; dsimp only; rw [if_pos rfl]
        have HCN : Hid ((nst p (k + 1)).cnt = (nst p k).cnt + 1) := by show _ = _; rw [e]
        obtain ⟨c, hc⟩ : ∃ c, (nst p k).cnt = c := ⟨_, rfl⟩
        obtain ⟨x, hx⟩ : ∃ x, p k = x := ⟨_, rfl⟩
        rw [hx] at cp cn fn hpi hpk
        rw [hc] at INV HCN ⊢
        have hwr : IntKind.i64.wrap (c + 1) = c + 1 := by rw [IntKind.wrap_i64]; first | omega | (unfold wrap64; omega)
        have C1 : Ch (fun j => j = gn) wr (wr.setCell ⟨gn, x, none⟩ (.int .i64 c)) := (Ch.refl (fun j => j = gn) wr).setCell (F := fun j => j = gn) (p := ⟨gn, x, none⟩) rfl _
        have cp1 := C1.cell cp dgn
        have fp1 := (C1.frozen (o := k) (lt_cell cp) dgn).trans fp
        have cn1 : (wr.setCell ⟨gn, x, none⟩ (.int .i64 c)).cell? ⟨gn, x, none⟩ = some (.int .i64 c) := World.cell?_setCell_same _ _ _ cn
        have C2 : Ch (fun j => j = g) (wr.setCell ⟨gn, x, none⟩ (.int .i64 c)) ((wr.setCell ⟨gn, x, none⟩ (.int .i64 c)).setCell ⟨g, k, none⟩ (.int .i64 c)) := (Ch.refl (fun j => j = g) _).setCell (F := fun j => j = g) (p := ⟨g, k, none⟩) rfl _
        have NN : Hid (IntsAt ((wr.setCell ⟨gn, x, none⟩ (.int .i64 c)).setCell ⟨g, k, none⟩ (.int .i64 c)) gn n (nst p (k + 1)).nb) := World.rowIs.congr ((IN.set x c).ch C2 (fun t => dgn t.symm)) (fun y _ => by rw [e, hx, hc])
        have PN : Hid (IntsAt ((wr.setCell ⟨gn, x, none⟩ (.int .i64 c)).setCell ⟨g, k, none⟩ (.int .i64 c)) g n (fun v => if v < k + 1 then ncl p v else (p v : Int))) := World.rowIs.congr ((IP.ch C1 dgn).set k c) (fun v _ => by
          dsimp only
          by_cases ev : v = k
          · rw [if_pos ev, if_pos (by omega), ev, ec, hc]
          · by_cases e2 : v < k
            · rw [if_neg ev, if_pos e2, if_pos (by omega)]
            · rw [if_neg ev, if_neg e2, if_neg (by omega)])
        have CN : Hid (Ch (fun j => j = g) w ((wr.setCell ⟨gn, x, none⟩ (.int .i64 c)).setCell ⟨g, k, none⟩ (.int .i64 c))) := (C.trans' C1 (fun i t => .inr (by omega))).trans C2
        rw [hx] at hneg
        generalize (nst p k).nb x = z at cn hneg
        clear IP IN C C1 C2 e ec hc hx
        go_wp2_with fail
        go_roundw
        case rel => exact ⟨k + 1, by omega, by go_num, by rw [HCN.out], PN.out, NN.out, CN.out⟩
        case measure => simp [intOf]; omega
      · have e : nst p (k + 1) = nst p k := by show (if _ then _ else _) = _; rw [if_neg hneg]
        have ec : ncl p k = (nst p k).nb (p k) := by unfold ncl; rw [e]
        have HCN : Hid ((nst p (k + 1)).cnt = (nst p k).cnt) := by show _ = _; rw [e]
        obtain ⟨x, hx⟩ : ∃ x, p k = x := ⟨_, rfl⟩
        rw [hx] at cp cn fn hpi hpk ec hneg
        obtain ⟨z, hz⟩ : ∃ z, (nst p k).nb x = z := ⟨_, rfl⟩
        rw [hz] at cn hneg ec
        have C2 : Ch (fun j => j = g) wr (wr.setCell ⟨g, k, none⟩ (.int .i64 z)) := (Ch.refl (fun j => j = g) _).setCell (F := fun j => j = g) (p := ⟨g, k, none⟩) rfl _
        have NN : Hid (IntsAt (wr.setCell ⟨g, k, none⟩ (.int .i64 z)) gn n (nst p (k + 1)).nb) := World.rowIs.congr (IN.ch C2 (fun t => dgn t.symm)) (fun y _ => by rw [e])
        have PN : Hid (IntsAt (wr.setCell ⟨g, k, none⟩ (.int .i64 z)) g n (fun v => if v < k + 1 then ncl p v else (p v : Int))) := World.rowIs.congr (IP.set k z) (fun v _ => by
          dsimp only
          by_cases ev : v = k
          · rw [if_pos ev, if_pos (by omega), ev, ec]
          · by_cases e2 : v < k
            · rw [if_neg ev, if_pos e2, if_pos (by omega)]
            · rw [if_neg ev, if_neg e2, if_neg (by omega)])
        have CN : Hid (Ch (fun j => j = g) w (wr.setCell ⟨g, k, none⟩ (.int .i64 z))) := C.trans C2
        obtain ⟨c, hc⟩ : ∃ c, (nst p k).cnt = c := ⟨_, rfl⟩
        rw [hc] at HCN ⊢
        clear IP IN C C2 e ec hz hx INV hc
        go_wp2_with fail
        go_roundw
        case rel => exact ⟨k + 1, by omega, by go_num, by rw [HCN.out], PN.out, NN.out, CN.out⟩
        case measure => simp [intOf]; omega
    · obtain rfl : k = n := by omega
      have FI : Hid (IntsAt wr g k (ncl p)) := World.rowIs.congr IP (fun v hv => by dsimp only; rw [if_pos hv])
      have FC := hid_of C
      clear IP IN C
      go_wp2_with fail
      go_ret
      exact ⟨rfl, FI.out, FC.out⟩
end Go.Proofs.Ytjheiaegpoppaaa
