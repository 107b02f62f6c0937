/- besides: for each node what lies beside it. -/
import Derived.Test.YtpdppjngbbkbbaaDoorVoD
namespace Go.Proofs.YtpdppjngbbkbbaaDoor
open Go.RowKit

theorem adj_two (es : List Ed) (k f t : Nat) (hf : (edAt es k).f = (f : Int)) (ht : (edAt es k).t = (t : Int)) : adj es (k + 1) = fun v => if v = t then (if v = f then adj es k v ++ [(t : Int)] else adj es k v) ++ [(f : Int)] else (if v = f then adj es k v ++ [(t : Int)] else adj es k v) := by
  funext v
  rw [adj_succ, hf, ht]
  by_cases e1 : v = f
  · subst e1
    by_cases e2 : v = t
    · subst e2; simp
    · have : ¬ (t : Int) = (v : Int) := fun h => e2 (by omega)
      simp [e2, this]
  · have h1 : ¬ (f : Int) = (v : Int) := fun h => e1 (by omega)
    by_cases e2 : v = t
    · subst e2; simp [e1, h1]
    · have : ¬ (t : Int) = (v : Int) := fun h => e2 (by omega)
      simp [e1, e2, h1, this]

/-- What the region reads. -/
structure Seen (eb q f : Nat) (c0 c1 : Int) (sl : Value) (w : World) : Prop where
  a : w.cell? ⟨eb, 0, none⟩ = some (.int .i64 c0)
  b : w.cell? ⟨eb, 1, none⟩ = some (.int .i64 c1)
  c : w.cell? ⟨q, f, none⟩ = some sl

/-- A list of lists of int, each in memory of its own, none in a certain block. -/
structure NextOff (eb : Nat) (w : World) (B h n : Nat) (L : Nat → List Int) : Prop where
  ex : ∃ sv : Nat → Value, w.rowIs h 25 n sv ∧ (∀ v, v < n → w.ownsRow B 3 1 (sv v) (L v).length (jvals (L v))) ∧ (∀ v, v < n → (sv v).ownBlock ≠ some h) ∧ (∀ u v, u < n → v < n → u ≠ v → ∀ k, (sv u).ownBlock = some k → (sv v).ownBlock ≠ some k) ∧ ∀ v, v < n → ∀ k, (sv v).ownBlock = some k → k ≠ eb
  ge : B ≤ h
theorem NextOff.at {eb : Nat} {w : World} {B h n : Nat} {L : Nat → List Int} (H : NextOff eb w B h n L) : NextAt w B h n L := by
  obtain ⟨sv, r, o, a, b, -⟩ := H.ex
  exact ⟨⟨sv, r, o, a, b⟩, H.ge⟩

/-- Behind an append onto one of the lists, and the store of it; none of them lies in a certain block. -/
theorem next_growO {wr w1 : World} {B h n f g cap m : Nat} {sv : Nat → Value} {L : Nat → List Int} {t : Int} {o : Obj} (r : wr.rowIs h 25 n sv) (ow : ∀ v, v < n → wr.ownsRow B 3 1 (sv v) (L v).length (jvals (L v))) (a : ∀ v, v < n → (sv v).ownBlock ≠ some h)
    (b : ∀ u v, u < n → v < n → u ≠ v → ∀ k, (sv u).ownBlock = some k → (sv v).ownBlock ≠ some k) (ge : B ≤ h) {eb : Nat} (off : ∀ v, v < n → ∀ k, (sv v).ownBlock = some k → k ≠ eb) (hgb : g ≠ eb) (hf : f < n) (hm : (L f).length = m)
    (own : w1.ownsRow B 3 1 (.slice (some ⟨g, 0, none⟩) (m + 1) cap) (m + 1) (jvals (L f) ++ [.int .i64 t])) (grow : (wr.alloc o).grownBy w1 (sv f).ownBlock) (hat : (sv f).ownBlock = some g ∨ g = wr.heap.size + 1) :
    w1.cell? ⟨h, f, none⟩ = some (sv f) ∧ w1.frozen? ⟨h, f, none⟩ = false ∧ NextOff eb (w1.setCell ⟨h, f, none⟩ (.slice (some ⟨g, 0, none⟩) (m + 1) cap)) B h n (fun v => if v = f then L v ++ [t] else L v) := by
  have KA : Kept wr (wr.alloc o) := (Kept.refl wr).alloc o
  have lh := r.lt
  have lhA : h < (wr.alloc o).heap.size := Nat.lt_of_lt_of_le lh KA.size
  have rA : (wr.alloc o).rowIs h 25 n sv := r.alloc o
  have r1 : w1.rowIs h 25 n sv := rA.of_block (grow.block h lhA (fun e => a f hf e.symm))
  have gh : g ≠ h := by
    rcases hat with e | e
    · intro t; exact a f hf (by rw [e, t])
    · omega
  have ngh : (Value.slice (some ⟨g, 0, none⟩) (m + 1) cap).ownBlock ≠ some h := by simp [Value.ownBlock]; exact gh
  have hs : (w1.setCell ⟨h, f, none⟩ (.slice (some ⟨g, 0, none⟩) (m + 1) cap)).heap.size = w1.heap.size := by simp [World.setCell]
  refine ⟨r1.cell hf, r1.frozen f, ⟨fun v => if v = f then .slice (some ⟨g, 0, none⟩) (m + 1) cap else sv v, r1.set f _, fun v hv => ?_, fun v hv => ?_, fun u v hu hv huv k hk => ?_, fun v hv k hk => ?_⟩, ge⟩
  · by_cases e : v = f
    · subst e
      simp only [if_true]
      rw [List.length_append, hm, ← jvals_snoc]
      exact ownsRow_setCell_other own ngh _
    · simp only [e, if_false]
      have o1 := ((ow v hv).alloc o).kept grow (by
        cases hb : (sv v).ownBlock with
        | none => exact .inl rfl
        | some k => exact .inr (fun t => b v f hv hf e k hb (by rw [← t])))
      exact ownsRow_setCell_other o1 (a v hv) _
  · by_cases e : v = f
    · simp only [e, if_true]; exact ngh
    · simp only [e, if_false]; exact a v hv
  · by_cases e1 : u = f
    · subst e1
      simp only [if_true] at hk
      have e2 : ¬ v = u := fun t => huv t.symm
      simp only [e2, if_false]
      have hk' : g = k := by simpa [Value.ownBlock] using hk
      subst hk'
      rcases hat with t | t
      · exact b u v hu hv huv g t
      · intro s
        have := ((ow v hv).lt g s).2
        omega
    · simp only [e1, if_false] at hk
      by_cases e2 : v = f
      · subst e2
        simp only [if_true]
        intro s
        have hk' : g = k := by simpa [Value.ownBlock] using s
        subst hk'
        rcases hat with t | t
        · exact b u v hu hv huv g hk t
        · have := ((ow u hu).lt g hk).2
          omega
      · simp only [e2, if_false]
        exact b u v hu hv huv k hk
  · by_cases e : v = f
    · simp only [e, if_true] at hk
      have hk' : g = k := by simpa [Value.ownBlock] using hk
      rw [← hk']; exact hgb
    · simp only [e, if_false] at hk
      exact off v hv k hk

/-- One of the lists grows: what the append's answer and the store leave. -/
theorem next_onto {W2 W0 : World} {q n f eb len : Nat} {L : Nat → List Int} {so : Option Addr} {sc : Nat} {sv : Nat → Value} {x c0 c1 : Int} (hW0 : W0.heap.size = q) (r2 : W2.rowIs q 25 n sv) (ow2 : ∀ v, v < n → W2.ownsRow q 3 1 (sv v) (L v).length (jvals (L v))) (a : ∀ v, v < n → (sv v).ownBlock ≠ some q)
    (bb : ∀ u v, u < n → v < n → u ≠ v → ∀ k, (sv u).ownBlock = some k → (sv v).ownBlock ≠ some k) (hf : f < n) (SV : sv f = .slice so len sc) (HLEN : (L f).length = len) (K2 : Kept W0 W2)
    (e0 : W2.cell? ⟨eb, 0, none⟩ = some (.int .i64 c0)) (e1 : W2.cell? ⟨eb, 1, none⟩ = some (.int .i64 c1)) (heb : ∀ v, v < n → ∀ k, (sv v).ownBlock = some k → k ≠ eb) (heb2 : eb < W2.heap.size) :
    ∀ w1 g cap3, w1.ownsRow q 3 1 (.slice (some ⟨g, 0, none⟩) (len + 1) cap3) (len + 1) (jvals (L f) ++ [.int .i64 x]) → (W2.alloc (Obj.cells #[.int .i64 x] 3)).grownBy w1 (Value.slice so len sc).ownBlock → ((Value.slice so len sc).ownBlock = some g ∨ g = W2.heap.size + 1) →
          w1.cell? ⟨eb, 0, none⟩ = some (.int .i64 c0) ∧ w1.cell? ⟨eb, 1, none⟩ = some (.int .i64 c1) ∧ w1.cell? ⟨q, f, none⟩ = some (.slice so len sc) ∧ w1.frozen? ⟨q, f, none⟩ = false ∧ NextOff eb (w1.setCell ⟨q, f, none⟩ (.slice (some ⟨g, 0, none⟩) (len + 1) cap3)) q q n (fun v => if v = f then L v ++ [x] else L v) ∧ Kept W0 (w1.setCell ⟨q, f, none⟩ (.slice (some ⟨g, 0, none⟩) (len + 1) cap3)) := fun w1 g cap3 own grow hat => by
  have ba := grow.cell ((Kept.refl W2).alloc (Obj.cells #[.int .i64 x] 3) |>.cell e0) (fun e => heb f hf eb (by rw [SV]; exact e.symm) rfl)
  have bc := grow.cell ((Kept.refl W2).alloc (Obj.cells #[.int .i64 x] 3) |>.cell e1) (fun e => heb f hf eb (by rw [SV]; exact e.symm) rfl)
  rw [← SV] at grow hat
  obtain ⟨t1, t2, t3⟩ := next_growO (wr := W2) r2 ow2 a bb (Nat.le_refl _) heb (by rcases hat with e | e; exact heb f hf g e; omega) hf HLEN own grow hat
  rw [SV] at t1
  refine ⟨ba, bc, t1, t2, t3, ?_⟩
  have KX := Below.grown (K2.alloc (Obj.cells #[.int .i64 x] 3)) grow (K2.alloc (Obj.cells #[.int .i64 x] 3)).size (fun j hj => by have := ((ow2 f hf).lt j hj).1; rw [hW0]; exact this)
  exact Kept.setCell KX (by rw [hW0]; exact Nat.le_refl _) _

set_option maxRecDepth 100000 in
set_option linter.unusedSimpArgs false in
set_option maxHeartbeats 4000000 in
theorem besides_calls (n : Nat) (hn : n ≤ 1024) (ao : Option Addr) (m cap : Nat) (es : List Ed) (w : World) (h : ERow w ao m cap es) (hm4 : m ≤ 4096) (hrg : Hid (∀ e ∈ es, 0 ≤ e.f ∧ e.f < (n : Int) ∧ 0 ≤ e.t ∧ e.t < (n : Int))) :
    Calls Tryd.prog 98 #[.agg #[.int .i64 (n : Int), .slice ao m cap]] w fun r w' => ∃ g, r = .returned (.slice (some ⟨g, 0, none⟩) n n) ∧ NextAt w' g g n (adj es m) ∧ w.heap.size < g ∧ Kept w w' := by
  have hl1 : m ≤ es.length := Nat.le_of_eq h.len
  have HLN := hid_of h.len
  have hr := h.room
  have hm := h.most
  unfold maxLen at hm
  obtain ⟨i0, hi, hz0, hz1, hz2⟩ := infoJ
  have hmk : ∀ w : World, (Instr.makeSlice 128 (.int .i64 (n : Int)) (.int .i64 (n : Int))).run Tryd.prog w = .ok (.slice (some ⟨w.heap.size, 0, none⟩) n n) (w.alloc (.cells (madeCells #[.slice none 0 0] n) 25)) :=
    fun w => run_make_row' 128 25 (.slice none 0 0) 24 Tryd.underlying128 infoS0 rfl .i64 .i64 n (by omega) (by omega) w
  have KG : Kept w (w.alloc (Obj.cells #[.int .i64 (n : Int), .slice ao m cap] 24)) := (Kept.refl w).alloc _
  have g0 : (w.alloc (Obj.cells #[.int .i64 (n : Int), .slice ao m cap] 24)).cell? ⟨w.heap.size, 0, none⟩ = some (.int .i64 (n : Int)) := by simp [go_sem]
  have g1 : (w.alloc (Obj.cells #[.int .i64 (n : Int), .slice ao m cap] 24)).cell? ⟨w.heap.size, 1, none⟩ = some (.slice ao m cap) := by simp [go_sem]
  have hz : (w.alloc (Obj.cells #[.int .i64 (n : Int), .slice ao m cap] 24)).heap.size = w.heap.size + 1 := by simp
  go_enter Tryd.func98, Tryd.ntmps98
  go_upto_region 1 with fail
  generalize hW0 : w.alloc (Obj.cells #[.int .i64 (n : Int), .slice ao m cap] 24) = W0 at KG g0 g1 hz ⊢
  clear hW0
  have K1 : Kept W0 (W0.alloc (.cells (madeCells #[.slice none 0 0] n) 25)) := (Kept.refl W0).alloc _
  have R1 : (W0.alloc (.cells (madeCells #[.slice none 0 0] n) 25)).rowIs W0.heap.size 25 n (fun _ => .slice none 0 0) := World.rowIs_made W0 _ n _
  have N1 : Hid (NextAt (W0.alloc (.cells (madeCells #[.slice none 0 0] n) 25)) W0.heap.size W0.heap.size n (adj es 0)) :=
    ⟨⟨_, R1, fun v hv => World.ownsRow_nil _ _ _ _, fun v hv => by simp [Value.ownBlock], fun u v hu hv huv k hk => by simp [Value.ownBlock] at hk⟩, Nat.le_refl _⟩
  have HE := hid_of (h.kept KG)
  have p0 := K1.cell g0
  have p1 := K1.cell g1
  have K1H := hid_of K1
  have KGH := hid_of KG
  clear R1 h
  go_upto_region 2 with fail
  generalize hW1 : W0.alloc (.cells (madeCells #[.slice none 0 0] n) 25) = W1 at K1 N1 p0 p1 K1H ⊢
  clear hW1 hmk K1
  obtain ⟨q, hq⟩ : ∃ q, w.heap.size + 1 = q := ⟨_, rfl⟩
  rw [hz] at N1
  rw [hq] at N1 ⊢
  have HQ : Hid (W0.heap.size = q) := hz.trans hq
  have HQ2 : w.heap.size + 1 ≤ q := by omega
  clear hq hz KG
  go_wp2_with fail
  go_loopw [5, 12] (fun _ i wr => ∃ k : Nat, k ≤ m ∧ i = .int .i64 k ∧ NextAt wr q q n (adj es k) ∧ Kept W0 wr) (fun _ i _ => m - (intOf i).toNat)
  case atStart => exact ⟨0, by omega, rfl, N1.out, K1H.out⟩
  case round =>
    obtain ⟨k, hk, rfl, NR, K⟩ := hrel
    clear N1 K1H p0 p1
    by_cases hgo : (k : Int) < (m : Int)
    · obtain ⟨b, off, rfl, hc⟩ := HE.out.cell (by omega)
      obtain ⟨d1, d2, d3, d4⟩ := hc k (by omega)
      replace d1 := K.cell d1
      replace d2 := K.cell d2
      replace d3 := K.cell d3
      replace d4 := K.cell d4
      clear hc
      have hkl : k < es.length := by omega
      have RG := hrg.out _ (mem_at hkl)
      obtain ⟨f, hf⟩ : ∃ f : Nat, (edAt es k).f = (f : Int) := ⟨(edAt es k).f.toNat, by omega⟩
      obtain ⟨t, ht⟩ : ∃ t : Nat, (edAt es k).t = (t : Int) := ⟨(edAt es k).t.toNat, by omega⟩
      have hfn : f < n := by rw [hf] at RG; omega
      have htn : t < n := by rw [ht] at RG; omega
      have SU := hid_of (adj_two es k f t hf ht)
      rw [hf] at d1
      rw [ht] at d2
      generalize (edAt es k).c = ec at d3
      generalize (edAt es k).k = ek at d4
      clear RG hf ht
      obtain ⟨sv, r, ow, a, bb⟩ := NR.ex
      have hll : (adj es k f).length ≤ 2 * k := adj_len es k f
      have hlt2 : (adj es k t).length ≤ 2 * k := adj_len es k t
      obtain ⟨len, hlen⟩ : ∃ len, (adj es k f).length = len := ⟨_, rfl⟩
      have HLEN := hid_of hlen
      rw [hlen] at hll
      have owf := ow f hfn
      rw [hlen] at owf
      have rlt := r.lt
      obtain ⟨so, sc, hsv⟩ := owns_slice1j owf
      have SV := hid_of hsv
      have lw : q < wr.heap.size := rlt
      have hebq : ¬ wr.heap.size = q := by omega
      have KE : Kept wr (wr.alloc (Obj.cells #[.int .i64 (f : Int), .int .i64 (t : Int), .int .i64 ec, .int .i64 ek] 86)) := (Kept.refl wr).alloc _
      have e0 : (wr.alloc (Obj.cells #[.int .i64 (f : Int), .int .i64 (t : Int), .int .i64 ec, .int .i64 ek] 86)).cell? ⟨wr.heap.size, 0, none⟩ = some (.int .i64 (f : Int)) := by simp [go_sem]
      have e1 : (wr.alloc (Obj.cells #[.int .i64 (f : Int), .int .i64 (t : Int), .int .i64 ec, .int .i64 ek] 86)).cell? ⟨wr.heap.size, 1, none⟩ = some (.int .i64 (t : Int)) := by simp [go_sem]
      have hfi : (f : Int) < (n : Int) := by omega
      have hti : (t : Int) < (n : Int) := by omega
      have hob : Hid (∀ v, v < n → ∀ k, (sv v).ownBlock = some k → k ≠ wr.heap.size) := fun v hv k hk => by have := ((ow v hv).lt k hk).2; omega
      go_upto_region 5 with fail
      clear d1 d2 d3 d4 owf hsv hlen NR lw rlt
      have lwr : wr.heap.size < (wr.alloc (Obj.cells #[.int .i64 (f : Int), .int .i64 (t : Int), .int .i64 ec, .int .i64 ek] 86)).heap.size := by simp
      generalize hW2 : wr.alloc (Obj.cells #[.int .i64 (f : Int), .int .i64 (t : Int), .int .i64 ec, .int .i64 ek] 86) = W2 at KE e0 e1 lwr ⊢
      clear hW2
      have r2 : W2.rowIs q 25 n sv := r.of_block (KE.block q r.lt)
      have ow2 : ∀ v, v < n → W2.ownsRow q 3 1 (sv v) (adj es k v).length (jvals (adj es k v)) := fun v hv => ownsK (ow v hv) KE
      have rc := r2.cell hfn
      have rz := r2.frozen f
      have lq := r2.lt
      rw [SV.out] at rc
      have owf := ow2 f hfn
      rw [SV.out, HLEN.out] at owf
      have bB : q ≤ W2.heap.size := Nat.le_of_lt lq
      have hl3 : len + 1 ≤ 8193 := by omega
      have STEP : Hid (∀ (WX : World), Kept W2 WX → (∀ j u', ([.int .i64 (t : Int)] : List Value)[j]? = some u' → (WX.alloc (Obj.cells #[.int .i64 (t : Int)] 3)).cell? ((⟨WX.heap.size, 0, none⟩ : Addr).add j) = some u') ∧ (WX.alloc (Obj.cells #[.int .i64 (t : Int)] 3)).ownsRow q 3 1 (.slice so len sc) len (jvals (adj es k f)) ∧ q ≤ WX.heap.size ∧
          ∀ w1 g cap3, w1.ownsRow q 3 1 (.slice (some ⟨g, 0, none⟩) (len + 1) cap3) (len + 1) (jvals (adj es k f) ++ [.int .i64 (t : Int)]) → (WX.alloc (Obj.cells #[.int .i64 (t : Int)] 3)).grownBy w1 (Value.slice so len sc).ownBlock → ((Value.slice so len sc).ownBlock = some g ∨ g = WX.heap.size + 1) →
          w1.cell? ⟨wr.heap.size, 0, none⟩ = some (.int .i64 (f : Int)) ∧ w1.cell? ⟨wr.heap.size, 1, none⟩ = some (.int .i64 (t : Int)) ∧ w1.cell? ⟨q, f, none⟩ = some (.slice so len sc) ∧ w1.frozen? ⟨q, f, none⟩ = false ∧ NextOff wr.heap.size (w1.setCell ⟨q, f, none⟩ (.slice (some ⟨g, 0, none⟩) (len + 1) cap3)) q q n (fun v => if v = f then adj es k v ++ [(t : Int)] else adj es k v) ∧ Kept W0 (w1.setCell ⟨q, f, none⟩ (.slice (some ⟨g, 0, none⟩) (len + 1) cap3))) := fun WX KX =>
        ⟨cell_newj WX 3 (.int .i64 (t : Int)), (ownsK owf KX).alloc _, Nat.le_trans bB KX.size, next_onto (x := (t : Int)) HQ.out (r2.of_block (KX.block q lq)) (fun v hv => ownsK (ow2 v hv) KX) a bb hfn SV.out HLEN.out ((K.trans KE).trans KX) (KX.cell e0) (KX.cell e1) hob.out (Nat.lt_of_lt_of_le lwr KX.size)⟩
      obtain ⟨eb, heb⟩ : ∃ eb, wr.heap.size = eb := ⟨_, rfl⟩
      rw [heb] at e0 e1 STEP lwr hebq ⊢
      clear r ow r2 ow2 owf KE K a bb hob heb
      have rz' : (W2.drewN 1).frozen? ⟨q, f, none⟩ = false := rz
      have rc' : (W2.drewN 1).cell? ⟨q, f, none⟩ = some (.slice so len sc) := rc
      refine Ord.regionZ 13 [(0, 0), (1, 0), (2, 1), (3, 0), (4, 0), (5, 1), (6, 0), (7, 1), (8, 0), (9, 1), (10, 2), (11, 2), (12, 0), (13, 3)] (Seen eb q f (f : Int) (t : Int) (.slice so len sc)) (by kernel_rfl) (by kernel_rfl) (by kernel_rfl) (by kernel_rfl) (fun _ _ d _ _ h => by cases d <;> exact h) ⟨e0, e1, rc⟩ ?_
      repeat
        refine Ord.stepZ rfl (fun Ko hK => ?_)
        first
          | (simp only [Ord.bodyZ, Ord.body]
             go_simp
             first
               | (refine hK _ _ ?_; clear hK Ko)
               | (refine ⟨_, fun w' hS => (by have c0 := hS.a; have c1 := hS.b; have c2 := hS.c; simp only [c0, c1, c2, Result.andThen]; rfl), hK _ _ ?_⟩; clear hK Ko)
               | (refine ⟨⟨((Kept.refl W2).drewN 1 |>.alloc _).cell e0, ((Kept.refl W2).drewN 1 |>.alloc _).cell e1, ((Kept.refl W2).drewN 1 |>.alloc _).cell rc⟩, hK _ _ ?_⟩; clear hK Ko))
      refine Ord.stepZ rfl (fun Ko hK => ?_)
      simp only [Ord.bodyZ, Ord.body, List.getElem_toArray, List.getElem_cons_succ, List.getElem_cons_zero]
      rw [if_pos (show Region.wanted _ _ = true from rfl)]
      obtain ⟨s1, s2, s3, s4⟩ := STEP.out (W2.drewN 1) ((Kept.refl W2).drewN 1)
      refine wp_append_lies _ (.tmp 23) (.tmp 26) 25 (by rfl) q 3 i0 _ 1 8 Tryd.underlying25 hi hz0 hz1 hz2 rfl (by decide) _ _ _ (by rfl) s2 ⟨(W2.drewN 1).heap.size, 0, none⟩ 1 1 [.int .i64 (t : Int)] (by rfl) rfl s1 (by intro u hu; simp at hu; subst hu; rfl) (by decide) (by unfold maxLen; omega) (by omega) (Nat.le_trans s3 (by simp)) ((W2.drewN 1).heap.size + 1) (by simp) ?_
      intro g cap3 w1 own grow hat hlt
      obtain ⟨q0, q0', q1, q2, q3, q4⟩ := s4 w1 g cap3 own grow hat
      refine ⟨⟨q0, q0', q1⟩, hK _ _ ?_⟩
      clear hK Ko s1 s2 s3 s4
      repeat
        refine Ord.stepZ rfl (fun Ko hK => ?_)
        simp only [Ord.bodyZ, Ord.body]
        go_simp
        (refine hK _ _ ?_; clear hK Ko)
      refine Ord.doneZ ?_
      have hw1 : (w1.setCell ⟨q, f, none⟩ (.slice (some ⟨g, 0, none⟩) (len + 1) cap3)).heap.size = w1.heap.size := by simp [World.setCell]
      have lt1 : eb < (w1.setCell ⟨q, f, none⟩ (.slice (some ⟨g, 0, none⟩) (len + 1) cap3)).heap.size := by rw [hw1]; exact lt_cell q0
      have x0 : (w1.setCell ⟨q, f, none⟩ (.slice (some ⟨g, 0, none⟩) (len + 1) cap3)).cell? ⟨eb, 0, none⟩ = some (.int .i64 (f : Int)) := by
        rw [World.cell?_setCell_other _ _ _ _ (fun e => by have := congrArg Addr.block e; simp at this; omega)]; exact q0
      have x1 : (w1.setCell ⟨q, f, none⟩ (.slice (some ⟨g, 0, none⟩) (len + 1) cap3)).cell? ⟨eb, 1, none⟩ = some (.int .i64 (t : Int)) := by
        rw [World.cell?_setCell_other _ _ _ _ (fun e => by have := congrArg Addr.block e; simp at this; omega)]; exact q0'
      clear e0 e1 rc rz rc' rz' q0 q0' q1 q2 own grow hat hlt STEP hw1 lwr bB lq
      generalize w1.setCell ⟨q, f, none⟩ (.slice (some ⟨g, 0, none⟩) (len + 1) cap3) = W3 at q3 q4 lt1 x0 x1 ⊢
      have hl5 : ((fun v => if v = f then adj es k v ++ [(t : Int)] else adj es k v) t).length ≤ 2 * k + 1 := by
        dsimp only
        split
        · rw [List.length_append]; simp; omega
        · omega
      obtain ⟨L1, hL1⟩ : ∃ L1 : Nat → List Int, L1 = fun v => if v = f then adj es k v ++ [(t : Int)] else adj es k v := ⟨_, rfl⟩
      rw [← hL1] at q3 hl5
      have SU2 : Hid (adj es (k + 1) = fun v => if v = t then L1 v ++ [(f : Int)] else L1 v) := by rw [hL1]; exact SU.out
      clear SU hL1 hlt2 hll HLEN SV
      obtain ⟨sv2, r, ow, a, bb, hob⟩ := q3.ex
      clear q3
      obtain ⟨len2, hlen2⟩ : ∃ len, (L1 t).length = len := ⟨_, rfl⟩
      rw [hlen2] at hl5
      have HLEN2 := hid_of hlen2
      have owt := ow t htn
      rw [hlen2] at owt
      obtain ⟨so2, sc2, hsv2⟩ := owns_slice1j owt
      have SV2 := hid_of hsv2
      have rc := r.cell htn
      have rz := r.frozen t
      have lq := r.lt
      rw [hsv2] at rc owt
      have hl6 : len2 + 1 ≤ 8194 := by omega
      have bB : q ≤ W3.heap.size := Nat.le_of_lt lq
      have STEP : Hid (∀ (WX : World), Kept W3 WX → (∀ j u', ([.int .i64 (f : Int)] : List Value)[j]? = some u' → (WX.alloc (Obj.cells #[.int .i64 (f : Int)] 3)).cell? ((⟨WX.heap.size, 0, none⟩ : Addr).add j) = some u') ∧ (WX.alloc (Obj.cells #[.int .i64 (f : Int)] 3)).ownsRow q 3 1 (.slice so2 len2 sc2) len2 (jvals (L1 t)) ∧ q ≤ WX.heap.size ∧
          ∀ w1 g cap3, w1.ownsRow q 3 1 (.slice (some ⟨g, 0, none⟩) (len2 + 1) cap3) (len2 + 1) (jvals (L1 t) ++ [.int .i64 (f : Int)]) → (WX.alloc (Obj.cells #[.int .i64 (f : Int)] 3)).grownBy w1 (Value.slice so2 len2 sc2).ownBlock → ((Value.slice so2 len2 sc2).ownBlock = some g ∨ g = WX.heap.size + 1) →
          w1.cell? ⟨eb, 0, none⟩ = some (.int .i64 (f : Int)) ∧ w1.cell? ⟨eb, 1, none⟩ = some (.int .i64 (t : Int)) ∧ w1.cell? ⟨q, t, none⟩ = some (.slice so2 len2 sc2) ∧ w1.frozen? ⟨q, t, none⟩ = false ∧ NextOff eb (w1.setCell ⟨q, t, none⟩ (.slice (some ⟨g, 0, none⟩) (len2 + 1) cap3)) q q n (fun v => if v = t then L1 v ++ [(f : Int)] else L1 v) ∧ Kept W0 (w1.setCell ⟨q, t, none⟩ (.slice (some ⟨g, 0, none⟩) (len2 + 1) cap3))) := fun WX KX =>
        ⟨cell_newj WX 3 (.int .i64 (f : Int)), (ownsK owt KX).alloc _, Nat.le_trans bB KX.size, next_onto (x := (f : Int)) HQ.out (r.of_block (KX.block q lq)) (fun v hv => ownsK (ow v hv) KX) a bb htn SV2.out HLEN2.out (Kept.trans q4 KX) (KX.cell x0) (KX.cell x1) hob (Nat.lt_of_lt_of_le lt1 KX.size)⟩
      clear r ow owt a bb hob q4 hsv2 hlen2
      have rz' : (W3.drewN 1).frozen? ⟨q, t, none⟩ = false := rz
      have rc' : (W3.drewN 1).cell? ⟨q, t, none⟩ = some (.slice so2 len2 sc2) := rc
      go_wp2_with fail
      refine Ord.regionZ 13 [(0, 0), (1, 0), (2, 1), (3, 0), (4, 0), (5, 1), (6, 0), (7, 1), (8, 0), (9, 1), (10, 2), (11, 2), (12, 0), (13, 3)] (Seen eb q t (f : Int) (t : Int) (.slice so2 len2 sc2)) (by kernel_rfl) (by kernel_rfl) (by kernel_rfl) (by kernel_rfl) (fun _ _ d _ _ h => by cases d <;> exact h) ⟨x0, x1, rc⟩ ?_
      repeat
        refine Ord.stepZ rfl (fun Ko hK => ?_)
        simp only [Ord.bodyZ, Ord.body]
        go_simp
        first
          | (refine hK _ _ ?_; clear hK Ko)
          | (refine ⟨_, fun w' hS => (by have c0 := hS.a; have c1 := hS.b; have c2 := hS.c; simp only [c0, c1, c2, Result.andThen]; rfl), hK _ _ ?_⟩; clear hK Ko)
          | (refine ⟨⟨((Kept.refl W3).drewN 1 |>.alloc _).cell x0, ((Kept.refl W3).drewN 1 |>.alloc _).cell x1, ((Kept.refl W3).drewN 1 |>.alloc _).cell rc⟩, hK _ _ ?_⟩; clear hK Ko)
      refine Ord.stepZ rfl (fun Ko hK => ?_)
      simp only [Ord.bodyZ, Ord.body, List.getElem_toArray, List.getElem_cons_succ, List.getElem_cons_zero]
      rw [if_pos (show Region.wanted _ _ = true from rfl)]
      obtain ⟨s1, s2, s3, s4⟩ := STEP.out (W3.drewN 1) ((Kept.refl W3).drewN 1)
      refine wp_append_lies _ (.tmp 36) (.tmp 39) 25 (by rfl) q 3 i0 _ 1 8 Tryd.underlying25 hi hz0 hz1 hz2 rfl (by decide) _ _ _ (by rfl) s2 ⟨(W3.drewN 1).heap.size, 0, none⟩ 1 1 [.int .i64 (f : Int)] (by rfl) rfl s1 (by intro u hu; simp at hu; subst hu; rfl) (by decide) (by unfold maxLen; omega) (by omega) (Nat.le_trans s3 (by simp)) ((W3.drewN 1).heap.size + 1) (by simp) ?_
      intro g2 cap4 w2 own grow hat hlt
      obtain ⟨q0, q0', q1, q2, q3, q4⟩ := s4 w2 g2 cap4 own grow hat
      refine ⟨⟨q0, q0', q1⟩, hK _ _ ?_⟩
      clear hK Ko s1 s2 s3 s4
      repeat
        refine Ord.stepZ rfl (fun Ko hK => ?_)
        simp only [Ord.bodyZ, Ord.body]
        go_simp
        (refine hK _ _ ?_; clear hK Ko)
      refine Ord.doneZ ?_
      have Q3 := hid_of q3.at
      rw [← SU2.out] at Q3
      have Q4 := hid_of q4
      clear x0 x1 rc rz rc' rz' q0 q0' q1 q2 q3 q4 own grow hat hlt STEP
      generalize w2.setCell ⟨q, t, none⟩ (.slice (some ⟨g2, 0, none⟩) (len2 + 1) cap4) = W5 at Q3 Q4 ⊢
      go_wp2
      go_roundw
      case rel => exact ⟨k + 1, by omega, by go_num, Q3.out, Q4.out⟩
      case measure => simp [intOf]; omega
    · obtain rfl : k = m := by omega
      have HN2 := hid_of NR
      have KF := hid_of (KGH.out.trans K)
      clear NR K HE KGH g0 g1
      go_wp2
      go_ret
      exact ⟨q, rfl, HN2.out, by omega, KF.out⟩
end Go.Proofs.YtpdppjngbbkbbaaDoor
