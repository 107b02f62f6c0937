/- The document's Wrong, Find, Undo, Join, Members. -/
import Derived.Test.YtipkmnhkmnajoaaUnI
namespace Go.Proofs.Ytipkmnhkmnajoaa
open Go.RowKit
open Un

theorem wrongR_calls (n : Int) (w : World) : Calls Try.prog 29 #[.int .i64 n] w fun e w' => e = .returned (.int .i64 (if n < 0 ∨ 1024 < n then 3 else 0)) ∧ w = w' := by
  by_cases h0 : n < 0
  · rw [if_pos (.inl h0)]
    go_enter Try.func29, Try.ntmps29
    go_wp2
    go_ret
    exact ⟨rfl, rfl⟩
  · by_cases h1 : 1024 < n
    · rw [if_pos (.inr h1)]
      go_enter Try.func29, Try.ntmps29
      go_wp2
      go_ret
      exact ⟨rfl, rfl⟩
    · rw [if_neg (by omega)]
      go_enter Try.func29, Try.ntmps29
      go_wp2
      go_ret
      exact ⟨rfl, rfl⟩

/-- The document's sets beside a history. -/
structure DocAt (w : World) (n : Nat) (ao : Option Addr) (m cap : Nat) (P : List (Nat × Nat)) (js : List Jn) : Prop where
  row : DRow w ao m cap P
  par : Par n P js
  good : Un.Good n js
  few : n ≤ 1024

theorem DocAt.kept {w w' : World} {n m cap : Nat} {ao : Option Addr} {P : List (Nat × Nat)} {js : List Jn} (h : DocAt w n ao m cap P js) (K : Kept w w') : DocAt w' n ao m cap P js := ⟨h.row.kept K, h.par, h.good, h.few⟩
theorem DocAt.len {w : World} {n m cap : Nat} {ao : Option Addr} {P : List (Nat × Nat)} {js : List Jn} (h : DocAt w n ao m cap P js) : m = js.length := h.row.len.trans h.par.len

theorem namesD_calls (w : World) (n m cap : Nat) (ao : Option Addr) (P : List (Nat × Nat)) (js : List Jn) (h : DocAt w n ao m cap P js) :
    Calls Try.prog 71 #[.agg #[.int .i64 (n : Int), .slice ao m cap]] w fun e w' => (∃ ao', e = .returned (.slice ao' n n) ∧ IRow w' ao' n n (nmTo js n)) ∧ Kept w w' := by
  refine namesR_calls ao n m cap P w h.row h.few ?_ h.par.lt (nmTo js n) ?_
  · have := h.len; have := len_lt h.good; have := h.few; omega
  · show fz (rounds P (P.length + 1)) n = nmTo js n
    rw [nmTo_fz]
    exact fz_congr (fun x hx => doc_names h.par h.good hx)

set_option maxRecDepth 100000 in
theorem findRBad_calls (w : World) (n m cap : Nat) (ao : Option Addr) (v : Int) (hv : v < 0 ∨ (n : Int) ≤ v) :
    Calls Try.prog 57 #[.agg #[.int .i64 (n : Int), .slice ao m cap], .int .i64 v] w fun e w' => e = .returned (.tuple #[.int .i64 0, .int .i64 30]) ∧ Kept w w' := by
  have KG : Kept w (w.alloc (Obj.cells #[.int .i64 (n : Int), .slice ao m cap] 66)) := (Kept.refl w).alloc _
  by_cases h0 : v < 0
  · clear hv
    go_enter Try.func57, Try.ntmps57
    go_wp2
    go_ret2
    exact ⟨rfl, KG⟩
  · have h1 : (n : Int) ≤ v := by omega
    clear hv
    go_enter Try.func57, Try.ntmps57
    go_wp2
    go_ret2
    exact ⟨rfl, KG⟩

set_option maxRecDepth 100000 in
set_option maxHeartbeats 1000000 in
theorem findR_calls (w : World) (n m cap : Nat) (ao : Option Addr) (P : List (Nat × Nat)) (js : List Jn) (h : DocAt w n ao m cap P js) (v : Nat) (hv : v < n) :
    Calls Try.prog 57 #[.agg #[.int .i64 (n : Int), .slice ao m cap], .int .i64 (v : Int)] w fun e w' => e = .returned (.tuple #[.int .i64 (nm js v : Int), .int .i64 0]) ∧ Kept w w' := by
  have KG : Kept w (w.alloc (Obj.cells #[.int .i64 (n : Int), .slice ao m cap] 66)) := (Kept.refl w).alloc _
  have C := hid_of (namesD_calls _ n m cap ao P js (h.kept KG))
  have hv' : (v : Int) < (n : Int) := by omega
  have EN := hid_of (nmTo_get js n v hv)
  have few := h.few
  clear h
  go_enter Try.func57, Try.ntmps57
  go_wp2_with (go_at_call 71; refine C.out.mono ?_; rintro e w1 ⟨⟨ao1, rfl, J1⟩, K1⟩; obtain ⟨b1, off1, rfl, hc1⟩ := J1.cell (by omega); have y1 := hc1 v hv; rw [EN.out] at y1; have KH := hid_of (KG.trans K1); clear hc1 J1 K1 C)
  go_ret2
  exact ⟨rfl, KH.out⟩

set_option maxRecDepth 100000 in
set_option maxHeartbeats 1000000 in
theorem undoR0_calls (w : World) (n : Nat) (ao : Option Addr) (cap : Nat) :
    Calls Try.prog 58 #[.agg #[.int .i64 (n : Int), .slice ao 0 cap]] w fun e w' => e = .returned (.tuple #[.agg #[.int .i64 (n : Int), .slice ao 0 cap], .int .i64 4]) ∧ Kept w w' := by
  have KG : Kept w ((w.alloc (Obj.cells #[.int .i64 (n : Int), .slice ao 0 cap] 66)).alloc (Obj.cells #[.int .i64 0, .slice none 0 0] 66)) := ((Kept.refl w).alloc _).alloc _
  go_enter Try.func58, Try.ntmps58
  go_wp2
  refine bodyPost_ret (v := .tuple #[.agg #[.int .i64 (n : Int), .slice ao 0 cap], .int .i64 4]) (by simp [results, Try.results58, go_sem]) rfl ⟨rfl, ?_⟩
  exact ((Kept.refl w).alloc _).alloc _

set_option maxRecDepth 100000 in
set_option maxHeartbeats 1000000 in
theorem undoR_calls (w : World) (n : Nat) (ao : Option Addr) (m cap : Nat) (hm : m + 1 ≤ cap) (hc : cap ≤ 9223372036854775807) (ha : ∃ b off, ao = some ⟨b, off, none⟩) :
    Calls Try.prog 58 #[.agg #[.int .i64 (n : Int), .slice ao (m + 1) cap]] w fun e w' => e = .returned (.tuple #[.agg #[.int .i64 (n : Int), .slice ao m cap], .int .i64 0]) ∧ Kept w w' := by
  obtain ⟨b, off, rfl⟩ := ha
  have KG : Kept w ((w.alloc (Obj.cells #[.int .i64 (n : Int), .slice (some ⟨b, off, none⟩) (m + 1) cap] 66)).alloc (Obj.cells #[.int .i64 0, .slice none 0 0] 66)) := ((Kept.refl w).alloc _).alloc _
  have q : (((m + 1 : Nat) : Int) == 0) = false := by rw [beq_eq_false_iff_ne]; omega
  go_enter Try.func58, Try.ntmps58
  go_wp2_with fail
  refine bodyPost_ret (v := .tuple #[.agg #[.int .i64 (n : Int), .slice (some ⟨b, off, none⟩) m cap], .int .i64 0]) (by simp [results, Try.results58, go_sem]) rfl ⟨rfl, ?_⟩
  exact ((Kept.refl w).alloc _).alloc _

set_option maxRecDepth 100000 in
theorem membersRBad_calls (w : World) (n m cap : Nat) (ao : Option Addr) (v : Int) (hv : v < 0 ∨ (n : Int) ≤ v) :
    Calls Try.prog 59 #[.agg #[.int .i64 (n : Int), .slice ao m cap], .int .i64 v] w fun e w' => e = .returned (.tuple #[.slice none 0 0, .int .i64 30]) ∧ Kept w w' := by
  have KG : Kept w (w.alloc (Obj.cells #[.int .i64 (n : Int), .slice ao m cap] 66)) := (Kept.refl w).alloc _
  by_cases h0 : v < 0
  · clear hv
    go_enter Try.func59, Try.ntmps59
    go_wp2
    go_ret2
    exact ⟨rfl, KG⟩
  · have h1 : (n : Int) ≤ v := by omega
    clear hv
    go_enter Try.func59, Try.ntmps59
    go_wp2
    go_ret2
    exact ⟨rfl, KG⟩

set_option maxRecDepth 100000 in
set_option maxHeartbeats 2000000 in
theorem membersR_calls (w : World) (n m cap : Nat) (ao : Option Addr) (P : List (Nat × Nat)) (js : List Jn) (h : DocAt w n ao m cap P js) (v : Nat) (hv : v < n) (zs : List Int) (hz : Hid (memTo js (rt js v) n = zs)) :
    Calls Try.prog 59 #[.agg #[.int .i64 (n : Int), .slice ao m cap], .int .i64 (v : Int)] w fun e w' => (∃ ao' cap', e = .returned (.tuple #[.slice ao' zs.length cap', .int .i64 0]) ∧ IRow w' ao' zs.length cap' zs) ∧ Kept w w' := by
  obtain ⟨i0, hi, hz0, hz1, hz2⟩ := infoI
  have KG : Kept w (w.alloc (Obj.cells #[.int .i64 (n : Int), .slice ao m cap] 66)) := (Kept.refl w).alloc _
  have g0 : (w.alloc (Obj.cells #[.int .i64 (n : Int), .slice ao m cap] 66)).cell? ⟨w.heap.size, 0, none⟩ = some (.int .i64 (n : Int)) := by simp [go_sem]
  have C := hid_of (namesD_calls _ n m cap ao P js (h.kept KG))
  have hv' : (v : Int) < (n : Int) := by omega
  have few := h.few
  have HG := hid_of h.good
  clear h
  go_enter Try.func59, Try.ntmps59
  go_wp2_with (go_at_call 71; refine C.out.mono ?_; rintro e w1 ⟨⟨ao1, rfl, J1⟩, K1⟩; obtain ⟨b1, off1, rfl, hc1⟩ := J1.cell (by omega); have g1 := K1.cell g0; have KH := hid_of (KG.trans K1); have HC := hid_of hc1; clear hc1 J1 K1 C g0)
  go_loopw [7, 8] (fun s i wr => ∃ k : Nat, k ≤ n ∧ i = .int .i64 (k : Int) ∧ wr.ownsRow w1.heap.size 3 1 s (memTo js (rt js v) k).length (ivals (memTo js (rt js v) k)) ∧ Kept w1 wr) (fun _ i _ => n - (intOf i).toNat)
  case atStart => exact ⟨0, by omega, rfl, World.ownsRow_nil _ _ _ _, Kept.refl _⟩
  case round =>
    obtain ⟨k, hk, rfl, O, K⟩ := hrel
    have K8 := hid_of K
    have OH := hid_of O
    have hw := K.size
    have g2 := K.cell g1
    clear O K
    by_cases hgo : (k : Int) < (n : Int)
    · have x1 := K8.out.cell (HC.out k (by omega))
      have y1 := K8.out.cell (HC.out v hv)
      rw [nmTo_get js n k (by omega)] at x1
      rw [nmTo_get js n v hv] at y1
      have EQ := hid_of (nm_eq_iff HG.out (u := k) (v := v) (by omega) hv)
      have ML := memTo_len js (rt js v) k
      have ML2 := cnt_le js (rt js v) k
      have l1 : (memTo js (rt js v) k).length ≤ 1024 := by omega
      have E1 : Hid (memTo js (rt js v) (k + 1) = if rt js k = rt js v then memTo js (rt js v) k ++ [(k : Int)] else memTo js (rt js v) k) := rfl
      generalize hL' : memTo js (rt js v) (k + 1) = L' at E1
      have EL' := hid_of hL'
      clear hL' ML ML2
      generalize memTo js (rt js v) k = L at OH l1 E1
      generalize nm js k = x at x1 EQ
      generalize nm js v = y at y1 EQ
      by_cases ex : x = y
      · subst ex
        have q : ((x : Int) == (x : Int)) = true := by simp
        have E2 := E1.out
        rw [if_pos (EQ.out.1 rfl)] at E2
        have E2H := hid_of E2
        clear E1 E2 EQ
        have B1 : Hid (L.length + 1 ≤ maxLen) := by show L.length + 1 ≤ maxLen; unfold maxLen; omega
        have B2 : Hid ((L.length + 1) * 8 ≤ 140737488355328) := by show (L.length + 1) * 8 ≤ 140737488355328; omega
        go_wp2_with fail
        go_quiet (fail)
        have KD : Kept wr (wr.drewN nq) := (Kept.refl wr).drewN nq
        have hsz : (wr.drewN nq).heap.size = wr.heap.size := rfl
        have NW := hid_of (cell_newi (wr.drewN nq) 3 (.int .i64 (k : Int)))
        have HM := hid_of ((ownsK OH.out KD).alloc (Obj.cells #[.int .i64 (k : Int)] 3))
        go_wp2_with (at_builtin; refine wpList_append_own_at _ rfl _ _ 72 rfl w1.heap.size 3 i0 _ 1 8 Try.underlying72 hi hz0 hz1 hz2 rfl (by decide) _ _ _ rfl HM.out ⟨wr.heap.size, 0, none⟩ 1 1 [.int .i64 (k : Int)] rfl rfl NW.out (by intro u hu; simp at hu; subst hu; rfl) B1.out B2.out (by simp; omega) ?_)
        intro v' w2 own grow _ ha
        have KN := hid_of (Below.grown ((K8.out.trans KD).alloc _) grow ((K8.out.trans KD).alloc _).size (fun j hj => (OH.out.lt j hj).1))
        rw [ivals_snoc, ← E2H.out] at own
        have ON : Hid (w2.ownsRow w1.heap.size 3 1 v' L'.length (ivals L')) := by
          have e : L'.length = L.length + 1 := by rw [E2H.out]; simp
          rw [e]; exact own
        clear own grow ha HM NW B1 B2 OH K8 x1 y1 g2
        go_wp2_with fail
        go_roundw
        case rel => exact ⟨k + 1, by omega, by go_num, by rw [EL'.out]; exact ON.out, KN.out⟩
        case measure => simp [intOf]; omega
      · have q : ((x : Int) == (y : Int)) = false := by rw [beq_eq_false_iff_ne]; omega
        have E2 := E1.out
        rw [if_neg (fun t => ex (EQ.out.2 t))] at E2
        subst E2
        clear E1 EQ
        go_wp2_with fail
        go_quiet (fail)
        have KD : Kept wr (wr.drewN nq) := (Kept.refl wr).drewN nq
        have OD := hid_of (ownsK OH.out KD)
        have KD8 := hid_of (K8.out.trans KD)
        clear OH K8 KD
        go_wp2_with fail
        go_roundw
        case rel => exact ⟨k + 1, by omega, by go_num, by rw [EL'.out]; exact OD.out, KD8.out⟩
        case measure => simp [intOf]; omega
    · obtain rfl : k = n := by omega
      rw [hz.out] at OH
      obtain ⟨ao9, cap9, rfl⟩ := owns_slice1i OH.out
      have J := hid_of (IRow.of_owns OH.out)
      clear OH
      go_wp2_with fail
      refine bodyPost_ret (v := .tuple #[.slice ao9 zs.length cap9, .int .i64 0]) (by simp [results, Try.results59, go_sem]) rfl ?_
      exact ⟨⟨_, _, rfl, J.out⟩, KH.out.trans K8.out⟩
end Go.Proofs.Ytipkmnhkmnajoaa
