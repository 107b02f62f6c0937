/- partsFrom: the walk. -/
import Derived.Test.YtjheiaegpoppaaaPaC
import Derived.Test.YtjheiaegpoppaaaWkG
namespace Go.Proofs.Ytjheiaegpoppaaa
open Go.RowKit

/-- The lists of lists as they are read, whatever changes elsewhere. -/
abbrev ReadsN (w : World) (q n : Nat) (L : Nat → List Int) : Prop := Reads w q n L (fun _ => False)

theorem ReadsN.flood {w W : World} {q n gl : Nat} {L : Nat → List Int} (h : ReadsN w q n L) (C : ∀ b o v, w.cell? ⟨b, o, none⟩ = some v → W.cell? ⟨b, o, none⟩ = some v) (hg : w.heap.size ≤ gl) :
    ∀ v, v < n → ∃ so sc, W.cell? ⟨q, v, none⟩ = some (.slice so (L v).length sc) ∧ (L v).length ≤ sc ∧ sc ≤ maxLen ∧ (0 < (L v).length → ∃ b off, so = some ⟨b, off, none⟩ ∧ ¬ b = gl ∧ ∀ j, j < (L v).length → W.cell? ⟨b, off + j, none⟩ = some (.int .i64 ((L v).getD j 0))) := fun v hv => by
  obtain ⟨so, sc, h1, h2, h3, h4⟩ := h v hv
  refine ⟨so, sc, C _ _ _ h1, h2, h3, fun hp => ?_⟩
  obtain ⟨b, off, e, -, hc⟩ := h4 hp
  refine ⟨b, off, e, fun t => ?_, fun j hj => C _ _ _ (hc j hj)⟩
  have := lt_cell (hc 0 hp)
  simp only at this
  omega

/-- The names of the parts. -/
noncomputable def pnm (L : Nat → List Int) (ρl : List Nat) (n : Nat) : Nat → Nat := fun x => (pf (natL L) (fun j => ρl.getD j 0) n x).toNat

set_option maxRecDepth 100000 in
set_option maxHeartbeats 4000000 in
theorem partsFrom_calls (n : Nat) (hn : n ≤ 1024) (L : Nat → List Int) (hLl : Hid (∀ v, v < n → (L v).length ≤ 8192)) (hL : Hid (∀ v, v < n → ∀ t ∈ L v, 0 ≤ t ∧ t < (n : Int))) (ρl : List Nat) (hρl : Hid (ρl.length = n)) (hρ : Hid (∀ r ∈ ρl, r < n)) (ro : Option Addr) (rc : Nat) (w : World) (J : JRow w ro n rc (qz ρl)) (q : Nat) (RD : Hid (ReadsN w q n L)) (hqw : q < w.heap.size)
    (NM : Hid (∀ x, x < n → ∃ a : Nat, pf (natL L) (fun j => ρl.getD j 0) n x = (a : Int) ∧ a < n)) :
    Calls Try.prog 39 #[.slice ro n rc, .slice (some ⟨q, 0, none⟩) n n] w fun r w' => ∃ g, r = .returned (.slice (some ⟨g, 0, none⟩) n n) ∧ IntsAt w' g n (ncl (pnm L ρl n)) ∧ Kept w w' ∧ w.heap.size ≤ g := by
  have hr := J.room
  have hmx := J.most
  unfold maxLen at hmx
  have UC := hid_of (unset2b n hn w)
  have JH := hid_of J
  clear J
  go_enter Try.func39, Try.ntmps39
  go_wp2_with fail
  refine UC.out.mono ?_
  rintro r w1 ⟨gl, rfl, I1, K1, hgl⟩
  have KB : Kept w1 (w1.alloc (Obj.cells #[.slice (some ⟨gl, 0, none⟩) n n] 26)) := (Kept.refl w1).alloc _
  have b0 : (w1.alloc (Obj.cells #[.slice (some ⟨gl, 0, none⟩) n n] 26)).cell? ⟨w1.heap.size, 0, none⟩ = some (.slice (some ⟨gl, 0, none⟩) n n) := by simp [go_sem]
  have I2 : Hid (IntsAt (w1.alloc (Obj.cells #[.slice (some ⟨gl, 0, none⟩) n n] 26)) gl n (pf (natL L) (fun j => ρl.getD j 0) 0)) := I1.kept KB
  have lgl := I1.lt
  have K2 := hid_of (K1.trans KB)
  clear I1 K1 KB UC
  go_upto_region 2 with fail
  generalize hW1 : w1.alloc (Obj.cells #[.slice (some ⟨gl, 0, none⟩) n n] 26) = W1 at *
  clear hW1
  obtain ⟨bx, hbx⟩ : ∃ bx, w1.heap.size = bx := ⟨_, rfl⟩
  rw [hbx] at b0 lgl ⊢
  have hbg : ¬ bx = gl := by omega
  have hbw : ¬ bx < w.heap.size := by omega
  clear hbx
  go_wp2_with fail
  go_loopw [13] (fun i wr => ∃ k : Nat, k ≤ n ∧ i = .int .i64 (k : Int) ∧ IntsAt wr gl n (pf (natL L) (fun j => ρl.getD j 0) k) ∧ Ch (fun j => j = gl) W1 wr) (fun i _ => n - (intOf i).toNat)
  case atStart => exact ⟨0, by omega, rfl, I2.out, Ch.refl _ _⟩
  case round =>
    obtain ⟨k, hk, rfl, I3, C3⟩ := hrel
    clear I2
    have b1 := C3.cell b0 hbg
    have KW : Kept w wr := K2.out.ch C3 (fun j t => by omega)
    by_cases hgo : (k : Int) < (n : Int)
    · have hkn : k < n := by omega
      obtain ⟨b, off, rfl, hc⟩ := JH.out.cell (by omega)
      have c1 := KW.cell (hc k hkn)
      rw [qz_get _ _ (by rw [hρl.out]; exact hkn)] at c1
      obtain ⟨r, hr'⟩ : ∃ r, ρl.getD k 0 = r := ⟨_, rfl⟩
      have hrn : r < n := by
        rw [← hr']
        have : k < ρl.length := by rw [hρl.out]; exact hkn
        have hm : ρl.getD k 0 ∈ ρl := by simp [List.getD, this]
        exact hρ.out _ hm
      rw [hr'] at c1
      have hri : (r : Int) < (n : Int) := by omega
      have KR : Kept wr (wr.alloc (Obj.cells #[.int .i64 (r : Int)] 3)) := (Kept.refl wr).alloc _
      have r0 : (wr.alloc (Obj.cells #[.int .i64 (r : Int)] 3)).cell? ⟨wr.heap.size, 0, none⟩ = some (.int .i64 (r : Int)) := by simp [go_sem]
      have b2 := KR.cell b1
      have I4 := I3.kept KR
      have C4 := C3.trans (.of_kept KR)
      have KW4 := hid_of (KW.trans KR)
      have hbr : ¬ wr.heap.size = gl := by have := I3.lt; omega
      have cr := I4.cell hrn
      have fr := World.rowIs.frozen I4 r
      have I4H := hid_of I4
      have C4H := hid_of C4
      have HR := hid_of hr'
      clear hc I3 C3 KW I4 C4 hr'
      have EP : Hid (pf (natL L) (fun j => ρl.getD j 0) (k + 1) = pstep (natL L) (pf (natL L) (fun j => ρl.getD j 0) k) r) := by
        show pstep _ _ (ρl.getD k 0) = _
        rw [HR.out]
      go_upto_region 5 with fail
      generalize hW4 : wr.alloc (Obj.cells #[.int .i64 (r : Int)] 3) = W4 at *
      clear hW4 KR
      generalize hgbr : wr.heap.size = gbr at *
      clear hgbr
      obtain ⟨p, hp⟩ : ∃ p, pf (natL L) (fun j => ρl.getD j 0) k = p := ⟨_, rfl⟩
      rw [hp] at I4H cr EP
      clear hp
      by_cases hneg : p r < 0
      · have hge : ¬ 0 ≤ p r := by omega
        have IS : Hid (IntsAt (W4.setCell ⟨gl, r, none⟩ (.int .i64 (r : Int))) gl n (fun j => if j = r then (r : Int) else p j)) := IntsAt.set I4H.out r (r : Int)
        have CS : Ch (fun j => j = gl) W4 (W4.setCell ⟨gl, r, none⟩ (.int .i64 (r : Int))) := (Ch.refl (fun j => j = gl) W4).setCell (F := fun j => j = gl) (p := ⟨gl, r, none⟩) rfl _
        have r1 := CS.cell r0 hbr
        have b3 := CS.cell b2 hbg
        have EN := hid_of (pcl_enters (W4.setCell ⟨gl, r, none⟩ (.int .i64 (r : Int))) gl n bx gbr r b3 r1 hbg hbr)
        have FL := hid_of (floodP_calls (.pointer (some ⟨bx, 0, none⟩)) (.pointer (some ⟨gbr, 0, none⟩)) (W4.setCell ⟨gl, r, none⟩ (.int .i64 (r : Int))) gl q n hn (cval r) (fun _ => True) L hLl hL (fun _ _ _ => by unfold cval; omega) r hrn _ (by show 0 ≤ (if r = r then (r : Int) else p r); rw [if_pos rfl]; omega) IS.out
          (ReadsN.flood RD.out (fun b o v hv => CS.cell (KW4.out.cell hv) (fun t => by have := lt_cell hv; simp only at this; omega)) hgl) (by omega) EN (fun _ _ _ _ => trivial))
        have C5 := hid_of (C4H.out.trans CS)
        have HN := hid_of hneg
        generalize hpr : p r = pr at cr hneg hge
        clear IS CS hpr EN I4H C4H
        go_wp2_with fail
        refine FL.out.mono ?_
        rintro rr w6 ⟨rfl, K, hK1, hK2, I6, C6⟩
        have FD := flooded_of HN.out hK1 hK2
        have I7 : Hid (IntsAt w6 gl n (pf (natL L) (fun j => ρl.getD j 0) (k + 1))) := by
          rw [EP.out]
          exact World.rowIs.congr I6 (fun x _ => by rw [FD.pstep HN.out x])
        have C7 := hid_of (C5.out.trans C6)
        clear I6 C6 FL hK1 hK2 FD
        go_wp2_with fail
        go_roundw
        case rel => exact ⟨k + 1, by omega, by go_num, I7.out, C7.out⟩
        case measure => simp [intOf]; omega
      · have hge : 0 ≤ p r := by omega
        have I7 : Hid (IntsAt W4 gl n (pf (natL L) (fun j => ρl.getD j 0) (k + 1))) := by
          rw [EP.out, pstep_old hneg]; exact I4H.out
        generalize p r = pr at cr hneg hge
        clear I4H
        go_wp2_with fail
        go_roundw
        case rel => exact ⟨k + 1, by omega, by go_num, I7.out, C4H.out⟩
        case measure => simp [intOf]; omega
    · obtain rfl : k = n := by omega
      have PN : Hid (∀ x, x < k → pf (natL L) (fun j => ρl.getD j 0) k x = ((pnm L ρl k x : Nat) : Int) ∧ pnm L ρl k x < k) := fun x hx => by
        obtain ⟨a, ea, ha⟩ := NM.out x hx
        unfold pnm
        rw [ea, Int.toNat_natCast]
        exact ⟨rfl, ha⟩
      have I4 : IntsAt wr gl k (fun v => ((pnm L ρl k v : Nat) : Int)) := World.rowIs.congr I3 (fun v hv => by rw [(PN.out v hv).1])
      have NC := hid_of (numbered_calls k hn (pnm L ρl k) (fun v hv => (PN.out v hv).2) gl wr I4)
      have KWH := hid_of KW
      clear I3 I4 C3 KW
      go_wp2_with fail
      refine NC.out.mono ?_
      rintro r w5 ⟨rfl, I5, C5⟩
      have FI := hid_of I5
      have FK := hid_of (KWH.out.ch C5 (fun j t => by omega))
      clear I5 C5 NC
      go_wp2_with fail
      go_ret
      exact ⟨gl, rfl, FI.out, FK.out, hgl⟩
end Go.Proofs.Ytjheiaegpoppaaa
