/- Where each node's edges lead: nextOf. -/
import Derived.Test.YtjheiaegpoppaaaWkA
import Derived.Deep.AppendLies
import Derived.Deep.Onto
namespace Go.Proofs.Ytjheiaegpoppaaa
open Go.RowKit

/-- Where the first k edges lead from each node. -/
def nxt (es : List Ed) (k : Nat) (v : Nat) : List Int := ((es.take k).filter fun e => e.f == (v : Int)).map Ed.t

theorem nxt_zero (es : List Ed) : nxt es 0 = fun _ => [] := rfl

theorem take_snocW (es : List Ed) (k : Nat) (hk : k < es.length) : es.take (k + 1) = es.take k ++ [edAt es k] := by
  have e1 : edAt es k = es[k] := by simp [edAt, List.getD, hk]
  rw [List.take_succ_eq_append_getElem hk, e1]

theorem nxt_succ (es : List Ed) (k f : Nat) (hk : k < es.length) (hf : (edAt es k).f = (f : Int)) : nxt es (k + 1) = fun v => if v = f then nxt es k v ++ [(edAt es k).t] else nxt es k v := by
  funext v
  unfold nxt
  rw [take_snocW es k hk, List.filter_append]
  by_cases e : v = f
  · subst e
    have : ((edAt es k).f == (v : Int)) = true := by rw [hf]; simp
    simp [this]
  · have : ((edAt es k).f == (v : Int)) = false := by rw [hf]; simp; omega
    simp [this, e]

/-- A list of lists of int, each in memory of its own, in blocks from B on. -/
structure NextAt (w : World) (B h n : Nat) (L : Nat → List Int) : Prop where
  ex : ∃ sv : Nat → Value, w.rowIs h 26 n sv ∧ (∀ v, v < n → w.ownsRow B 3 1 (sv v) (L v).length (jvals (L v))) ∧ (∀ v, v < n → (sv v).ownBlock ≠ some h) ∧ (∀ u v, u < n → v < n → u ≠ v → ∀ k, (sv u).ownBlock = some k → (sv v).ownBlock ≠ some k)
  ge : B ≤ h

theorem NextAt.ch {F : Nat → Prop} {w w' : World} {B h n : Nat} {L : Nat → List Int} (hN : NextAt w B h n L) (C : Ch F w w') (hF : ∀ k, F k → k < B) : NextAt w' B h n L := by
  obtain ⟨sv, r, o, a, b⟩ := hN.ex
  have hg := hN.ge
  refine ⟨⟨sv, r.of_block (C.block h r.lt (fun t => by have := hF h t; omega)), fun v hv => C.owns (o v hv) (fun k e t => ?_), a, b⟩, hg⟩
  have := hF k t
  have := ((o v hv).lt k e).1
  omega
theorem NextAt.kept {w w' : World} {B h n : Nat} {L : Nat → List Int} (hN : NextAt w B h n L) (K : Kept w w') : NextAt w' B h n L := hN.ch (F := fun _ => False) (.of_kept K) (fun _ t => t.elim)

theorem jvals_len (zs : List Int) : (jvals zs).length = zs.length := by simp [jvals]

/-- Behind an append onto one of the lists, and the store of it. -/
theorem next_grow {wr w1 : World} {B h n f g cap m : Nat} {sv : Nat → Value} {L : Nat → List Int} {t : Int} {o : Obj} (r : wr.rowIs h 26 n sv) (ow : ∀ v, v < n → wr.ownsRow B 3 1 (sv v) (L v).length (jvals (L v))) (a : ∀ v, v < n → (sv v).ownBlock ≠ some h)
    (b : ∀ u v, u < n → v < n → u ≠ v → ∀ k, (sv u).ownBlock = some k → (sv v).ownBlock ≠ some k) (ge : B ≤ h) (hf : f < n) (hm : (L f).length = m)
    (own : w1.ownsRow B 3 1 (.slice (some ⟨g, 0, none⟩) (m + 1) cap) (m + 1) (jvals (L f) ++ [.int .i64 t])) (grow : (wr.alloc o).grownBy w1 (sv f).ownBlock) (hat : (sv f).ownBlock = some g ∨ g = wr.heap.size + 1) :
    w1.cell? ⟨h, f, none⟩ = some (sv f) ∧ w1.frozen? ⟨h, f, none⟩ = false ∧ NextAt (w1.setCell ⟨h, f, none⟩ (.slice (some ⟨g, 0, none⟩) (m + 1) cap)) B h n (fun v => if v = f then L v ++ [t] else L v) := by
  have KA : Kept wr (wr.alloc o) := (Kept.refl wr).alloc o
  have lh := r.lt
  have lhA : h < (wr.alloc o).heap.size := Nat.lt_of_lt_of_le lh KA.size
  have rA : (wr.alloc o).rowIs h 26 n sv := r.alloc o
  have r1 : w1.rowIs h 26 n sv := rA.of_block (grow.block h lhA (fun e => a f hf e.symm))
  have gh : g ≠ h := by
    rcases hat with e | e
    · intro t; exact a f hf (by rw [e, t])
    · omega
  have ngh : (Value.slice (some ⟨g, 0, none⟩) (m + 1) cap).ownBlock ≠ some h := by simp [Value.ownBlock]; exact gh
  have hs : (w1.setCell ⟨h, f, none⟩ (.slice (some ⟨g, 0, none⟩) (m + 1) cap)).heap.size = w1.heap.size := by simp [World.setCell]
  refine ⟨r1.cell hf, r1.frozen f, ⟨fun v => if v = f then .slice (some ⟨g, 0, none⟩) (m + 1) cap else sv v, r1.set f _, fun v hv => ?_, fun v hv => ?_, fun u v hu hv huv k hk => ?_⟩, ge⟩
  · by_cases e : v = f
    · subst e
      simp only [if_true]
      rw [List.length_append, hm, ← jvals_snoc]
      exact ownsRow_setCell_other own ngh _
    · simp only [e, if_false]
      have o1 := ((ow v hv).alloc o).kept grow (by
        cases hb : (sv v).ownBlock with
        | none => exact .inl rfl
        | some k => exact .inr (fun t => b v f hv hf e k hb (by rw [← t])))
      exact ownsRow_setCell_other o1 (a v hv) _
  · by_cases e : v = f
    · simp only [e, if_true]; exact ngh
    · simp only [e, if_false]; exact a v hv
  · by_cases e1 : u = f
    · subst e1
      simp only [if_true] at hk
      have e2 : ¬ v = u := fun t => huv t.symm
      simp only [e2, if_false]
      have hk' : g = k := by simpa [Value.ownBlock] using hk
      subst hk'
      rcases hat with t | t
      · exact b u v hu hv huv g t
      · intro s
        have := ((ow v hv).lt g s).2
        omega
    · simp only [e1, if_false] at hk
      by_cases e2 : v = f
      · subst e2
        simp only [if_true]
        intro s
        have hk' : g = k := by simpa [Value.ownBlock] using s
        subst hk'
        rcases hat with t | t
        · exact b u v hu hv huv g hk t
        · have := ((ow u hu).lt g hk).2
          omega
      · simp only [e2, if_false]
        exact b u v hu hv huv k hk

theorem infoS0 : (Try.prog.info? 26).map (fun i => (i.zero, i.size, i.bytes)) = some (some (.slice none 0 0), 1, 24) := by kernel_rfl

set_option maxRecDepth 100000 in
set_option maxHeartbeats 2000000 in
theorem next_calls (n : Nat) (hn : n ≤ 1024) (ao : Option Addr) (m cap : Nat) (es : List Ed) (w : World) (h : ERow w ao m cap es) (hm4 : m ≤ 8192) (hrg : Hid (∀ e ∈ es, 0 ≤ e.f ∧ e.f < (n : Int))) :
    Calls Try.prog 29 #[.agg #[.int .i64 (n : Int), .slice ao m cap]] w fun r w' => ∃ q, r = .returned (.slice (some ⟨q, 0, none⟩) n n) ∧ NextAt w' w.heap.size q n (nxt es m) ∧ Kept w w' := by
  have hl1 : m ≤ es.length := Nat.le_of_eq h.len
  have hr := h.room
  have hm := h.most
  unfold maxLen at hm
  obtain ⟨i0, hi, hz0, hz1, hz2⟩ := infoJ
  have hmk : ∀ w : World, (Instr.makeSlice 53 (.int .i64 (n : Int)) (.int .i64 (n : Int))).run Try.prog w = .ok (.slice (some ⟨w.heap.size, 0, none⟩) n n) (w.alloc (.cells (madeCells #[.slice none 0 0] n) 26)) :=
    fun w => run_make_row' 53 26 (.slice none 0 0) 24 Try.underlying53 infoS0 rfl .i64 .i64 n (by omega) (by omega) w
  have KG : Kept w (w.alloc (Obj.cells #[.int .i64 (n : Int), .slice ao m cap] 24)) := (Kept.refl w).alloc _
  have g0 : (w.alloc (Obj.cells #[.int .i64 (n : Int), .slice ao m cap] 24)).cell? ⟨w.heap.size, 0, none⟩ = some (.int .i64 (n : Int)) := by simp [go_sem]
  have g1 : (w.alloc (Obj.cells #[.int .i64 (n : Int), .slice ao m cap] 24)).cell? ⟨w.heap.size, 1, none⟩ = some (.slice ao m cap) := by simp [go_sem]
  have hz : (w.alloc (Obj.cells #[.int .i64 (n : Int), .slice ao m cap] 24)).heap.size = w.heap.size + 1 := by simp
  go_enter Try.func29, Try.ntmps29
  go_upto_region 1 with fail
  generalize hW0 : w.alloc (Obj.cells #[.int .i64 (n : Int), .slice ao m cap] 24) = W0 at KG g0 g1 hz ⊢
  clear hW0
  have K1 : Kept W0 (W0.alloc (.cells (madeCells #[.slice none 0 0] n) 26)) := (Kept.refl W0).alloc _
  have R1 : (W0.alloc (.cells (madeCells #[.slice none 0 0] n) 26)).rowIs W0.heap.size 26 n (fun _ => .slice none 0 0) := World.rowIs_made W0 _ n _
  have N1 : Hid (NextAt (W0.alloc (.cells (madeCells #[.slice none 0 0] n) 26)) W0.heap.size W0.heap.size n (nxt es 0)) :=
    ⟨⟨_, R1, fun v hv => World.ownsRow_nil _ _ _ _, fun v hv => by simp [Value.ownBlock], fun u v hu hv huv k hk => by simp [Value.ownBlock] at hk⟩, Nat.le_refl _⟩
  have HE := hid_of (h.kept KG)
  have p1 := K1.cell g1
  have K1H := hid_of K1
  have KGH := hid_of KG
  clear R1 h
  go_upto_region 2 with fail
  generalize hW1 : W0.alloc (.cells (madeCells #[.slice none 0 0] n) 26) = W1 at K1 N1 p1 K1H ⊢
  clear hW1 hmk K1
  obtain ⟨q, hq⟩ : ∃ q, w.heap.size + 1 = q := ⟨_, rfl⟩
  rw [hz] at N1
  rw [hq] at N1 ⊢
  have HQ : Hid (W0.heap.size = q) := hz.trans hq
  have HQ2 : w.heap.size ≤ q := by omega
  clear hq hz g0 KG
  go_wp2_with fail
  go_loopw [5, 12] (fun _ i wr => ∃ k : Nat, k ≤ m ∧ i = .int .i64 k ∧ NextAt wr q q n (nxt es k) ∧ Kept W0 wr) (fun _ i _ => m - (intOf i).toNat)
  case atStart => exact ⟨0, by omega, rfl, N1.out, K1H.out⟩
  case round =>
    obtain ⟨k, hk, rfl, NR, K⟩ := hrel
    clear N1 K1H p1
    by_cases hgo : (k : Int) < (m : Int)
    · obtain ⟨b, off, rfl, hc⟩ := HE.out.cell (by omega)
      obtain ⟨d1, d2, d3, d4⟩ := hc k (by omega)
      replace d1 := K.cell d1
      replace d2 := K.cell d2
      replace d3 := K.cell d3
      replace d4 := K.cell d4
      clear hc
      have hkl : k < es.length := by omega
      have hmem : edAt es k ∈ es := by
        have : edAt es k = es[k] := by simp [edAt, List.getD, hkl]
        rw [this]; exact List.getElem_mem hkl
      have RG := hrg.out _ hmem
      obtain ⟨f, hf⟩ : ∃ f : Nat, (edAt es k).f = (f : Int) := ⟨(edAt es k).f.toNat, by omega⟩
      have hfn : f < n := by rw [hf] at RG; omega
      have SU := hid_of (nxt_succ es k f hkl hf)
      rw [hf] at d1
      generalize (edAt es k).t = et at d2 SU
      generalize (edAt es k).c = ec at d3
      generalize (edAt es k).k = ek at d4
      clear hmem RG hf
      obtain ⟨sv, r, ow, a, bb⟩ := NR.ex
      have ge := NR.ge
      have hll : (nxt es k f).length ≤ k := by
        unfold nxt
        rw [List.length_map]
        exact Nat.le_trans (List.length_filter_le _ _) (by simp; omega)
      obtain ⟨len, hlen⟩ : ∃ len, (nxt es k f).length = len := ⟨_, rfl⟩
      have HLEN := hid_of hlen
      rw [hlen] at hll
      have owf := ow f hfn
      rw [hlen] at owf
      have rc := r.cell hfn
      have rz := r.frozen f
      have rlt := r.lt
      obtain ⟨so, sc, hsv⟩ := owns_slice1j owf
      have SV := hid_of hsv
      rw [hsv] at rc owf
      have lw : q < wr.heap.size := rlt
      have KE : Kept wr (wr.alloc (Obj.cells #[.int .i64 (f : Int), .int .i64 et, .int .i64 ec, .int .i64 ek] 42)) := (Kept.refl wr).alloc _
      have e0 : (wr.alloc (Obj.cells #[.int .i64 (f : Int), .int .i64 et, .int .i64 ec, .int .i64 ek] 42)).cell? ⟨wr.heap.size, 0, none⟩ = some (.int .i64 (f : Int)) := by simp [go_sem]
      have e1 : (wr.alloc (Obj.cells #[.int .i64 (f : Int), .int .i64 et, .int .i64 ec, .int .i64 ek] 42)).cell? ⟨wr.heap.size, 1, none⟩ = some (.int .i64 et) := by simp [go_sem]
      have hfi : (f : Int) < (n : Int) := by omega
      go_upto_region 5 with fail
      clear d1 d2 d3 d4 rc rz owf hsv hlen NR lw rlt
      have lwr : wr.heap.size < (wr.alloc (Obj.cells #[.int .i64 (f : Int), .int .i64 et, .int .i64 ec, .int .i64 ek] 42)).heap.size := by simp
      generalize hW2 : wr.alloc (Obj.cells #[.int .i64 (f : Int), .int .i64 et, .int .i64 ec, .int .i64 ek] 42) = W2 at KE e0 e1 lwr ⊢
      clear hW2
      have r2 : W2.rowIs q 26 n sv := r.of_block (KE.block q r.lt)
      have ow2 : ∀ v, v < n → W2.ownsRow q 3 1 (sv v) (nxt es k v).length (jvals (nxt es k v)) := fun v hv => ownsK (ow v hv) KE
      have rc := r2.cell hfn
      have rz := r2.frozen f
      have lq := r2.lt
      rw [SV.out] at rc
      have owf := ow2 f hfn
      rw [SV.out, HLEN.out] at owf
      have K2 := K.trans KE
      have bB : q ≤ W2.heap.size := Nat.le_of_lt lq
      have NW := hid_of (cell_newj W2.drew 3 (.int .i64 et))
      have HM := hid_of (World.ownsRow.alloc owf.drew (Obj.cells #[.int .i64 et] 3))
      have OWF := hid_of owf
      have NG : Hid (∀ w1 g cap3, w1.ownsRow q 3 1 (.slice (some ⟨g, 0, none⟩) (len + 1) cap3) (len + 1) (jvals (nxt es k f) ++ [.int .i64 et]) → (W2.drew.alloc (Obj.cells #[.int .i64 et] 3)).grownBy w1 (Value.slice so len sc).ownBlock → ((Value.slice so len sc).ownBlock = some g ∨ g = W2.heap.size + 1) →
          w1.cell? ⟨wr.heap.size, 0, none⟩ = some (.int .i64 (f : Int)) ∧ w1.cell? ⟨q, f, none⟩ = some (.slice so len sc) ∧ w1.frozen? ⟨q, f, none⟩ = false ∧ NextAt (w1.setCell ⟨q, f, none⟩ (.slice (some ⟨g, 0, none⟩) (len + 1) cap3)) q q n (nxt es (k + 1)) ∧ Kept W0 (w1.setCell ⟨q, f, none⟩ (.slice (some ⟨g, 0, none⟩) (len + 1) cap3))) := fun w1 g cap3 own grow hat => by
        have hb0 := grow.cell ((Kept.refl W2).drew.alloc (Obj.cells #[.int .i64 et] 3) |>.cell e0) (fun e => by
          have := ((ow f hfn).lt wr.heap.size (by rw [SV.out]; exact e.symm)).2
          omega)
        rw [← SV.out] at grow hat
        obtain ⟨t1, t2, t3⟩ := next_grow (wr := W2.drew) (r2.drew) (fun v hv => (ow2 v hv).drew) a bb ge hfn HLEN.out own grow hat
        rw [SV.out] at t1
        rw [SU.out]
        refine ⟨hb0, t1, t2, t3, ?_⟩
        have KX := Below.grown (K2.drew.alloc (Obj.cells #[.int .i64 et] 3)) grow (K2.drew.alloc (Obj.cells #[.int .i64 et] 3)).size (fun j hj => by have := ((ow2 f hfn).lt j hj).1; rw [HQ.out]; exact this)
        exact Kept.setCell KX (by rw [HQ.out]; exact Nat.le_refl _) _
      clear r ow r2 ow2 owf K2 KE K a bb
      go_region_law ((refine step_append_lies _ (by rfl) (.tmp 23) (.tmp 26) 26 (by rfl) q 3 i0 _ 1 8 Try.underlying26 hi hz0 hz1 hz2 rfl (by decide) _ _ _ (by rfl) HM.out ⟨W2.heap.size, 0, none⟩ 1 1 [.int .i64 et] (by rfl) rfl NW.out (by intro u hu; simp at hu; subst hu; rfl) (by decide) (by unfold maxLen; omega) (by omega) (by simp; omega) (W2.heap.size + 1) (by simp) ?_; intro g cap3 w1 own grow hat hlt; obtain ⟨q0, q1, q2, q3, q4⟩ := NG.out w1 g cap3 own grow hat))
      all_goals
        have Q3 := hid_of q3
        have Q4 := hid_of q4
        clear q3 q4 own grow hat hlt HM NW NG OWF e0 e1 rc rz
        go_wp2_with fail
        go_roundw
        case rel => exact ⟨k + 1, by omega, by go_num, Q3.out, Q4.out⟩
        case measure => simp [intOf]; omega
    · obtain rfl : k = m := by omega
      have NF : Hid (NextAt wr w.heap.size q n (nxt es k)) := by
        obtain ⟨sv, r, ow, a, bb⟩ := NR.ex
        exact ⟨⟨sv, r, fun v hv => World.ownsRow.mono (ow v hv) HQ2, a, bb⟩, HQ2⟩
      have KF := hid_of (KGH.out.trans K)
      clear NR K HE
      go_wp2_with fail
      go_ret
      exact ⟨q, rfl, NF.out, KF.out⟩
end Go.Proofs.Ytjheiaegpoppaaa
