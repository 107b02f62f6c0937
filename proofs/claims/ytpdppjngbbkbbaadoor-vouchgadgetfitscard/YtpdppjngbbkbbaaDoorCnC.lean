/- The document's Numbered and Parts: the walks. -/
import Derived.Test.YtpdppjngbbkbbaaDoorCnB
import Derived.Test.YtpdppjngbbkbbaaDoorEdgeC
namespace Go.Proofs.YtpdppjngbbkbbaaDoor
open Go.RowKit

theorem dnr_bd (l : Nat → Nat) : ∀ k, 0 ≤ (dnr l k).cnt ∧ (dnr l k).cnt ≤ (k : Int) := by
  intro k
  induction k with
  | zero => exact ⟨by show (0 : Int) ≤ 0; omega, by show (0 : Int) ≤ 0; omega⟩
  | succ k ih =>
    by_cases e : l k = k
    · have : (dnr l (k + 1)).cnt = (dnr l k).cnt + 1 := by show (if l k = k then _ else _ : NSt).cnt = _; rw [if_pos e]
      omega
    · have : (dnr l (k + 1)).cnt = (dnr l k).cnt := by show (if l k = k then _ else _ : NSt).cnt = _; rw [if_neg e]
      omega

set_option maxRecDepth 100000 in
set_option maxHeartbeats 4000000 in
theorem numR_calls (n : Nat) (hn : n ≤ 1024) (l : Nat → Nat) (hl : Hid (∀ v, v < n → l v ≤ v)) (g : Nat) (w : World) (h : IntsAt w g n (fun v => (l v : Int))) :
    Calls Tryd.prog 110 #[.slice (some ⟨g, 0, none⟩) n n] w fun r w' => ∃ g', r = .returned (.slice (some ⟨g', 0, none⟩) n n) ∧ IntsAt w' g' n (dnr l n).nb ∧ Kept w w' ∧ w.heap.size ≤ g' := by
  have hmkI : ∀ w : World, (Instr.makeSlice 25 (.int .i64 (n : Int)) (.int .i64 (n : Int))).run Tryd.prog w = .ok (.slice (some ⟨w.heap.size, 0, none⟩) n n) (w.alloc (.cells (madeCells #[.int .i64 0] n) 3)) :=
    fun w => run_make_row' 25 3 (.int .i64 0) 8 Tryd.underlying25 infoJ0 rfl .i64 .i64 n (by omega) (by omega) w
  have I1 := World.rowIs_made w (.int .i64 0) n 3
  have K1 : Kept w (w.alloc (.cells (madeCells #[.int .i64 0] n) 3)) := (Kept.refl w).alloc _
  have I1H : Hid (IntsAt (w.alloc (.cells (madeCells #[.int .i64 0] n) 3)) w.heap.size n (dnr l 0).nb) := World.rowIs.congr I1 (fun i _ => rfl)
  have K1H := hid_of K1
  have HH := hid_of h
  have hgw := h.lt
  clear I1 K1 h
  go_enter Tryd.func110, Tryd.ntmps110
  go_upto_region 2 with fail
  generalize hW1 : w.alloc (.cells (madeCells #[.int .i64 0] n) 3) = W1 at *
  clear hW1 hmkI
  obtain ⟨g', hg⟩ : ∃ g', w.heap.size = g' := ⟨_, rfl⟩
  rw [hg] at I1H hgw ⊢
  have HG := hid_of hg
  have dgg : ¬ g = g' := by omega
  clear hg
  go_wp2_with fail
  go_loopw [4, 5] (fun c i wr => ∃ k : Nat, k ≤ n ∧ i = .int .i64 (k : Int) ∧ c = .int .i64 (dnr l k).cnt ∧ IntsAt wr g' n (dnr l k).nb ∧ Kept w wr) (fun _ i _ => n - (intOf i).toNat)
  case atStart => exact ⟨0, by omega, rfl, rfl, I1H.out, K1H.out⟩
  case round =>
    obtain ⟨k, hk, rfl, rfl, I2, K2⟩ := hrel
    clear I1H K1H
    by_cases hgo : (k : Int) < (n : Int)
    · have hkn : k < n := by omega
      have cl := (HH.out.kept K2).cell hkn
      have co := I2.cell hkn
      have fo := World.rowIs.frozen I2 k
      have hlk := hl.out k hkn
      have bd := dnr_bd l k
      by_cases e : l k = k
      · have en : dnr l (k + 1) = ⟨fun x => if x = k then (dnr l k).cnt else (dnr l k).nb x, (dnr l k).cnt + 1⟩ := by show (if l k = k then _ else _ : NSt) = _; rw [if_pos e]
        have HCN : Hid ((dnr l (k + 1)).cnt = (dnr l k).cnt + 1) := by show _ = _; rw [en]
        rw [e] at cl
        obtain ⟨c, hc⟩ : ∃ c, (dnr l k).cnt = c := ⟨_, rfl⟩
        have IN : Hid (IntsAt (wr.setCell ⟨g', k, none⟩ (.int .i64 c)) g' n (dnr l (k + 1)).nb) := World.rowIs.congr (IntsAt.set I2 k c) (fun x _ => by rw [en, hc])
        have KN : Hid (Kept w (wr.setCell ⟨g', k, none⟩ (.int .i64 c))) := K2.setCell (p := ⟨g', k, none⟩) (by rw [HG.out]; exact Nat.le_refl _) _
        rw [hc] at bd HCN ⊢
        have hwr : IntKind.i64.wrap (c + 1) = c + 1 := by rw [IntKind.wrap_i64]; first | omega | (unfold wrap64; omega)
        have qk : ((k : Int) == (k : Int)) = true := by simp
        generalize (dnr l k).nb k = z at co
        clear I2 K2 en hc e
        go_wp2_with fail
        go_roundw
        case rel => exact ⟨k + 1, by omega, by go_num, by rw [HCN.out], IN.out, KN.out⟩
        case measure => simp [intOf]; omega
      · have en : dnr l (k + 1) = ⟨fun x => if x = k then (dnr l k).nb (l k) else (dnr l k).nb x, (dnr l k).cnt⟩ := by show (if l k = k then _ else _ : NSt) = _; rw [if_neg e]
        have HCN : Hid ((dnr l (k + 1)).cnt = (dnr l k).cnt) := by show _ = _; rw [en]
        obtain ⟨x, hx⟩ : ∃ x, l k = x := ⟨_, rfl⟩
        rw [hx] at cl hlk e
        have hxn : x < n := by omega
        have cx := I2.cell hxn
        obtain ⟨z, hz⟩ : ∃ z, (dnr l k).nb x = z := ⟨_, rfl⟩
        rw [hz] at cx
        have IN : Hid (IntsAt (wr.setCell ⟨g', k, none⟩ (.int .i64 z)) g' n (dnr l (k + 1)).nb) := World.rowIs.congr (IntsAt.set I2 k z) (fun y _ => by rw [en, hx, hz])
        have KN : Hid (Kept w (wr.setCell ⟨g', k, none⟩ (.int .i64 z))) := K2.setCell (p := ⟨g', k, none⟩) (by rw [HG.out]; exact Nat.le_refl _) _
        obtain ⟨c, hc⟩ : ∃ c, (dnr l k).cnt = c := ⟨_, rfl⟩
        rw [hc] at HCN ⊢
        have qk : ((x : Int) == (k : Int)) = false := by rw [beq_eq_false_iff_ne]; omega
        have hxi : (x : Int) < (n : Int) := by omega
        generalize (dnr l k).nb k = z1 at co
        clear I2 K2 en hc hx hz bd e
        go_wp2_with fail
        go_roundw
        case rel => exact ⟨k + 1, by omega, by go_num, by rw [HCN.out], IN.out, KN.out⟩
        case measure => simp [intOf]; omega
    · obtain rfl : k = n := by omega
      have FI := hid_of I2
      have FK := hid_of K2
      clear I2 K2
      go_wp2_with fail
      go_ret
      exact ⟨g', rfl, FI.out, FK.out, by rw [HG.out]; exact Nat.le_refl _⟩

set_option maxRecDepth 100000 in
set_option maxHeartbeats 4000000 in
theorem partsRBad_calls (nodes : Int) (ao : Option Addr) (m cap : Nat) (es : List Ed) (w : World) (h : ERow w ao m cap es) (c a : Int) (hf : Hid (faultOf nodes es = (c, a))) (hb : c ≠ 0) :
    Calls Tryd.prog 100 #[.agg #[.int .i64 nodes, .slice ao m cap]] w fun r w' => r = .returned (.tuple #[.slice none 0 0, .int .i64 c]) ∧ Kept w w' := by
  have KG : Kept w (w.alloc (Obj.cells #[.int .i64 nodes, .slice ao m cap] 24)) := (Kept.refl w).alloc _
  have g0 : (w.alloc (Obj.cells #[.int .i64 nodes, .slice ao m cap] 24)).cell? ⟨w.heap.size, 0, none⟩ = some (.int .i64 nodes) := by simp [go_sem]
  have g1 : (w.alloc (Obj.cells #[.int .i64 nodes, .slice ao m cap] 24)).cell? ⟨w.heap.size, 1, none⟩ = some (.slice ao m cap) := by simp [go_sem]
  have HE := hid_of (h.kept KG)
  have hq : (c != 0) = true := by simpa using hb
  clear h hb
  go_enter Tryd.func100, Tryd.ntmps100
  go_wp2_with fail
  generalize hW0 : w.alloc (Obj.cells #[.int .i64 nodes, .slice ao m cap] 24) = W0 at KG g0 g1 HE ⊢
  clear hW0
  refine (checkR_calls nodes ao m cap es W0 HE.out c a hf).mono ?_
  rintro v wa ⟨rfl, K1⟩
  have KA := hid_of (KG.trans K1)
  clear K1 KG HE g1 g0
  go_wp2_with fail
  go_ret2
  exact ⟨rfl, KA.out⟩

set_option maxRecDepth 100000 in
set_option maxHeartbeats 8000000 in
theorem partsR_calls (n : Nat) (hn : n ≤ 1024) (ao : Option Addr) (m cap : Nat) (es : List Ed) (w : World) (h : ERow w ao m cap es) (hf : Hid (faultOf (n : Int) es = (0, 0))) (hrg : Hid (∀ e ∈ es, 0 ≤ e.f ∧ e.f < (n : Int) ∧ 0 ≤ e.t ∧ e.t < (n : Int))) :
    Calls Tryd.prog 100 #[.agg #[.int .i64 (n : Int), .slice ao m cap]] w fun r w' => ∃ g c cnt, r = .returned (.tuple #[.slice (some ⟨g, 0, none⟩) n n, .int .i64 0]) ∧ IntsAt w' g n c ∧ NumOf n (Way (outs (both es))) c cnt ∧ Kept w w' := by
  have hmkI : ∀ w : World, (Instr.makeSlice 25 (.int .i64 (n : Int)) (.int .i64 (n : Int))).run Tryd.prog w = .ok (.slice (some ⟨w.heap.size, 0, none⟩) n n) (w.alloc (.cells (madeCells #[.int .i64 0] n) 3)) :=
    fun w => run_make_row' 25 3 (.int .i64 0) 8 Tryd.underlying25 infoJ0 rfl .i64 .i64 n (by omega) (by omega) w
  have KG : Kept w (w.alloc (Obj.cells #[.int .i64 (n : Int), .slice ao m cap] 24)) := (Kept.refl w).alloc _
  have g0 : (w.alloc (Obj.cells #[.int .i64 (n : Int), .slice ao m cap] 24)).cell? ⟨w.heap.size, 0, none⟩ = some (.int .i64 (n : Int)) := by simp [go_sem]
  have g1 : (w.alloc (Obj.cells #[.int .i64 (n : Int), .slice ao m cap] 24)).cell? ⟨w.heap.size, 1, none⟩ = some (.slice ao m cap) := by simp [go_sem]
  have HE := hid_of (h.kept KG)
  have HL := hid_of h.len
  have hr := h.room
  have hmx := h.most
  unfold maxLen at hmx
  clear h
  go_enter Tryd.func100, Tryd.ntmps100
  go_wp2_with fail
  generalize hW0 : w.alloc (Obj.cells #[.int .i64 (n : Int), .slice ao m cap] 24) = W0 at KG g0 g1 HE ⊢
  clear hW0
  refine (checkR_calls (n : Int) ao m cap es W0 HE.out 0 0 hf).mono ?_
  rintro v wa ⟨rfl, K1⟩
  replace g0 := K1.cell g0
  replace g1 := K1.cell g1
  have HE1 := hid_of (HE.out.kept K1)
  have KA := hid_of (KG.trans K1)
  clear K1 KG HE
  have I1 := World.rowIs_made wa (.int .i64 0) n 3
  have K1 : Kept wa (wa.alloc (.cells (madeCells #[.int .i64 0] n) 3)) := (Kept.refl wa).alloc _
  have I1H : Hid (IntsAt (wa.alloc (.cells (madeCells #[.int .i64 0] n) 3)) wa.heap.size n (fun v => if v < 0 then (v : Int) else 0)) := World.rowIs.congr I1 (fun i _ => by simp)
  have K1H := hid_of K1
  clear I1 K1
  go_upto_region 5 with fail
  generalize hW1 : wa.alloc (.cells (madeCells #[.int .i64 0] n) 3) = W1 at *
  clear hW1 hmkI
  obtain ⟨g, hg⟩ : ∃ g, wa.heap.size = g := ⟨_, rfl⟩
  rw [hg] at I1H ⊢
  have HG := hid_of hg
  clear hg
  go_wp2_with fail
  go_loopw [7] (fun i wr => ∃ k : Nat, k ≤ n ∧ i = .int .i64 (k : Int) ∧ IntsAt wr g n (fun v => if v < k then (v : Int) else 0) ∧ Kept wa wr) (fun i _ => n - (intOf i).toNat)
  case atStart => exact ⟨0, by omega, rfl, I1H.out, K1H.out⟩
  case round =>
    obtain ⟨k, hk, rfl, I2, K2⟩ := hrel
    clear I1H K1H
    have x0 := K2.cell g0
    by_cases hgo : (k : Int) < (n : Int)
    · have hkn : k < n := by omega
      have ck := I2.cell hkn
      have fk := World.rowIs.frozen I2 k
      have IN : Hid (IntsAt (wr.setCell ⟨g, k, none⟩ (.int .i64 (k : Int))) g n (fun v => if v < k + 1 then (v : Int) else 0)) := (IntsAt.set I2 k (k : Int)).congr (fun v _ => by
        dsimp only
        by_cases e : v = k
        · rw [if_pos e, if_pos (by omega), e]
        · by_cases e2 : v < k
          · rw [if_neg e, if_pos e2, if_pos (by omega)]
          · rw [if_neg e, if_neg e2, if_neg (by omega)])
      have KN : Hid (Kept wa (wr.setCell ⟨g, k, none⟩ (.int .i64 (k : Int)))) := K2.setCell (p := ⟨g, k, none⟩) (by rw [HG.out]; exact Nat.le_refl _) _
      generalize (if k < k then (k : Int) else 0) = z0 at ck
      clear I2 K2
      go_wp2_with fail
      go_roundw
      case rel => exact ⟨k + 1, by omega, by go_num, IN.out, KN.out⟩
      case measure => simp [intOf]; omega
    · obtain rfl : k = n := by omega
      have I3 : Hid (IntsAt wr g k (fun v => ((rnd es 0 v : Nat) : Int))) := World.rowIs.congr I2 (fun v hv => by dsimp only; rw [if_pos hv]; rfl)
      have K3 := hid_of K2
      clear I2 K2
      go_wp2_with fail
      go_loopw [8] (fun i wr => ∃ r : Nat, r ≤ k ∧ i = .int .i64 (r : Int) ∧ IntsAt wr g k (fun v => ((rnd es r v : Nat) : Int)) ∧ Kept wa wr) (fun i _ => k - (intOf i).toNat)
      case atStart => exact ⟨0, by omega, rfl, I3.out, K3.out⟩
      case round =>
        obtain ⟨r, hrr, rfl, I4, K4⟩ := hrel
        clear I3 K3 x0
        have x0 := K4.cell g0
        by_cases hgo : (r : Int) < (k : Int)
        · have I5 : Hid (IntsAt wr g k (fun v => ((swp (rnd es r) es 0 v : Nat) : Int))) := I4
          have K5 := hid_of K4
          clear I4 K4
          go_wp2_with fail
          go_loopw [9] (fun i wr => ∃ j : Nat, j ≤ m ∧ i = .int .i64 (j : Int) ∧ IntsAt wr g k (fun v => ((swp (rnd es r) es j v : Nat) : Int)) ∧ Kept wa wr) (fun i _ => m - (intOf i).toNat)
          case atStart => exact ⟨0, by omega, rfl, I5.out, K5.out⟩
          case round =>
            obtain ⟨j, hj, rfl, I6, K6⟩ := hrel
            clear I5 K5
            have x1 := K6.cell g1
            by_cases hgo2 : (j : Int) < (m : Int)
            · obtain ⟨b, off, rfl, hc⟩ := (HE1.out.kept K6).cell (by omega)
              obtain ⟨d1, d2, -, -⟩ := hc j (by omega)
              have hjl : j < es.length := by have := HL.out; omega
              have hm : edAt es j ∈ es := by
                have : edAt es j = es[j] := by simp [edAt, List.getD, hjl]
                rw [this]; exact List.getElem_mem hjl
              have RG := hrg.out _ hm
              obtain ⟨a, ha⟩ : ∃ a : Nat, (edAt es j).f = (a : Int) := ⟨(edAt es j).f.toNat, by omega⟩
              obtain ⟨t, ht⟩ : ∃ t : Nat, (edAt es j).t = (t : Int) := ⟨(edAt es j).t.toNat, by omega⟩
              have han : a < k := by rw [ha] at RG; omega
              have htn : t < k := by rw [ht] at RG; omega
              have SU : Hid (swp (rnd es r) es (j + 1) = rlx (swp (rnd es r) es j) a t) := by
                show rlx (swp (rnd es r) es j) (edAt es j).f.toNat (edAt es j).t.toNat = _
                rw [ha, ht, Int.toNat_natCast, Int.toNat_natCast]
              rw [ha] at d1
              rw [ht] at d2
              have hai : (a : Int) < (k : Int) := by omega
              have hti : (t : Int) < (k : Int) := by omega
              obtain ⟨f, hf'⟩ : ∃ f, swp (rnd es r) es j = f := ⟨_, rfl⟩
              rw [hf'] at I6 SU
              have ca := I6.cell han
              have ct := I6.cell htn
              have I6H := hid_of I6
              have K6H := hid_of K6
              clear hc hm RG ha ht hf' I6 K6
              by_cases hlt : f a < f t
              · have hlti : ((f a : Nat) : Int) < ((f t : Nat) : Int) := by omega
                have ES : rlx f a t = fun x => if x = t then f a else f x := by unfold rlx; rw [if_pos hlt]
                have SU2 := hid_of (SU.out.trans ES)
                generalize hfa : ((f a : Nat) : Int) = fa at ca hlti
                generalize hft : ((f t : Nat) : Int) = ft at ct hlti
                have HFA := hid_of hfa
                clear hlt ES hfa hft
                go_wp2_with fail
                go_quiet (fail)
                have KD : Kept wr (wr.drewN nq) := (Kept.refl wr).drewN nq
                have I7 := I6H.out.kept KD
                have K7 := K6H.out.trans KD
                replace ca := KD.cell ca
                replace ct := KD.cell ct
                have ft' := World.rowIs.frozen I7 t
                generalize wr.drewN nq = W7 at ca ct I7 K7 ft' ⊢
                have IN : Hid (IntsAt (W7.setCell ⟨g, t, none⟩ (.int .i64 fa)) g k (fun v => ((swp (rnd es r) es (j + 1) v : Nat) : Int))) := (IntsAt.set I7 t fa).congr (fun x _ => by
                  dsimp only
                  rw [SU2.out]
                  dsimp only
                  by_cases e : x = t
                  · rw [if_pos e, if_pos e, HFA.out]
                  · rw [if_neg e, if_neg e])
                have KN : Hid (Kept wa (W7.setCell ⟨g, t, none⟩ (.int .i64 fa))) := K7.setCell (p := ⟨g, t, none⟩) (by rw [HG.out]; exact Nat.le_refl _) _
                clear I7 K7 KD I6H K6H
                go_wp2_with fail
                go_roundw
                case rel => exact ⟨j + 1, by omega, by go_num, IN.out, KN.out⟩
                case measure => simp [intOf]; omega
              · have hlti : ¬ ((f a : Nat) : Int) < ((f t : Nat) : Int) := by omega
                have ES : rlx f a t = fun x => if x = a then f t else f x := by unfold rlx; rw [if_neg hlt]
                have SU2 := hid_of (SU.out.trans ES)
                generalize hfa : ((f a : Nat) : Int) = fa at ca hlti
                generalize hft : ((f t : Nat) : Int) = ft at ct hlti
                have HFT := hid_of hft
                clear hlt ES hfa hft
                go_wp2_with fail
                go_quiet (fail)
                have KD : Kept wr (wr.drewN nq) := (Kept.refl wr).drewN nq
                have I7 := I6H.out.kept KD
                have K7 := K6H.out.trans KD
                replace ca := KD.cell ca
                replace ct := KD.cell ct
                have fa' := World.rowIs.frozen I7 a
                generalize wr.drewN nq = W7 at ca ct I7 K7 fa' ⊢
                have IN : Hid (IntsAt (W7.setCell ⟨g, a, none⟩ (.int .i64 ft)) g k (fun v => ((swp (rnd es r) es (j + 1) v : Nat) : Int))) := (IntsAt.set I7 a ft).congr (fun x _ => by
                  dsimp only
                  rw [SU2.out]
                  dsimp only
                  by_cases e : x = a
                  · rw [if_pos e, if_pos e, HFT.out]
                  · rw [if_neg e, if_neg e])
                have KN : Hid (Kept wa (W7.setCell ⟨g, a, none⟩ (.int .i64 ft))) := K7.setCell (p := ⟨g, a, none⟩) (by rw [HG.out]; exact Nat.le_refl _) _
                clear I7 K7 KD I6H K6H
                go_wp2_with fail
                go_roundw
                case rel => exact ⟨j + 1, by omega, by go_num, IN.out, KN.out⟩
                case measure => simp [intOf]; omega
            · obtain rfl : j = m := by omega
              have I7 : Hid (IntsAt wr g k (fun v => ((rnd es (r + 1) v : Nat) : Int))) := by
                rw [HL.out] at I6; exact I6
              have K7 := hid_of K6
              clear I6 K6
              go_wp2_with fail
              go_roundw
              case rel => exact ⟨r + 1, by omega, by go_num, I7.out, K7.out⟩
              case measure => simp [intOf]; omega
        · obtain rfl : r = k := by omega
          have NC := hid_of (numR_calls r hn (rnd es r) (fun v _ => rnd_le es r v) g wr I4)
          have K5 := hid_of (KA.out.trans K4)
          have NUM := hid_of (dnr_num (rnd_least hrg.out) (fun u v _ _ h => h.symm_of (fun _ _ h => both_symm hrg.out h)) (fun u v x _ _ _ a b => a.trans b))
          clear I4 K4
          go_wp2_with fail
          refine NC.out.mono ?_
          rintro rr w5 ⟨g', rfl, I5, K6, hg'⟩
          have FI := hid_of I5
          have FK := hid_of (K5.out.trans K6)
          clear I5 K6 NC
          go_wp2_with fail
          go_ret2
          exact ⟨g', _, _, rfl, FI.out, NUM.out, FK.out⟩
end Go.Proofs.YtpdppjngbbkbbaaDoor
