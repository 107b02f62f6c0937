/- partOf: the walk. -/
import Derived.Test.YtomopfjaebcpeaaPrN
import Derived.Test.YtomopfjaebcpeaaPrK
namespace Go.Proofs.Ytomopfjaebcpeaa
open Go.RowKit

theorem adj_two (es : List Ed) (k f t : Nat) (hf : (edAt es k).f = (f : Int)) (ht : (edAt es k).t = (t : Int)) : adj es (k + 1) = fun v => if v = t then (if v = f then adj es k v ++ [(t : Int)] else adj es k v) ++ [(f : Int)] else (if v = f then adj es k v ++ [(t : Int)] else adj es k v) := by
  funext v
  rw [adj_succ, hf, ht]
  by_cases e1 : v = f
  · subst e1
    by_cases e2 : v = t
    · subst e2; simp
    · have : ¬ (t : Int) = (v : Int) := fun h => e2 (by omega)
      simp [e2, this]
  · have h1 : ¬ (f : Int) = (v : Int) := fun h => e1 (by omega)
    by_cases e2 : v = t
    · subst e2; simp [e1, h1]
    · have : ¬ (t : Int) = (v : Int) := fun h => e2 (by omega)
      simp [e1, e2, h1, this]

/-- What the region reads. -/
structure Seen (eb q f : Nat) (c0 c1 : Int) (sl : Value) (w : World) : Prop where
  a : w.cell? ⟨eb, 0, none⟩ = some (.int .i64 c0)
  b : w.cell? ⟨eb, 1, none⟩ = some (.int .i64 c1)
  c : w.cell? ⟨q, f, none⟩ = some sl

/-- A list of lists of int, each in memory of its own, none in a certain block. -/
structure NextOff (eb : Nat) (w : World) (B h n : Nat) (L : Nat → List Int) : Prop where
  ex : ∃ sv : Nat → Value, w.rowIs h 43 n sv ∧ (∀ v, v < n → w.ownsRow B 3 1 (sv v) (L v).length (jvals (L v))) ∧ (∀ v, v < n → (sv v).ownBlock ≠ some h) ∧ (∀ u v, u < n → v < n → u ≠ v → ∀ k, (sv u).ownBlock = some k → (sv v).ownBlock ≠ some k) ∧ ∀ v, v < n → ∀ k, (sv v).ownBlock = some k → k ≠ eb
  ge : B ≤ h
theorem NextOff.at {eb : Nat} {w : World} {B h n : Nat} {L : Nat → List Int} (H : NextOff eb w B h n L) : NextAt w B h n L := by
  obtain ⟨sv, r, o, a, b, -⟩ := H.ex
  exact ⟨⟨sv, r, o, a, b⟩, H.ge⟩

/-- Behind an append onto one of the lists, and the store of it; none of them lies in a certain block. -/
theorem next_growO {wr w1 : World} {B h n f g cap m : Nat} {sv : Nat → Value} {L : Nat → List Int} {t : Int} {o : Obj} (r : wr.rowIs h 43 n sv) (ow : ∀ v, v < n → wr.ownsRow B 3 1 (sv v) (L v).length (jvals (L v))) (a : ∀ v, v < n → (sv v).ownBlock ≠ some h)
    (b : ∀ u v, u < n → v < n → u ≠ v → ∀ k, (sv u).ownBlock = some k → (sv v).ownBlock ≠ some k) (ge : B ≤ h) {eb : Nat} (off : ∀ v, v < n → ∀ k, (sv v).ownBlock = some k → k ≠ eb) (hgb : g ≠ eb) (hf : f < n) (hm : (L f).length = m)
    (own : w1.ownsRow B 3 1 (.slice (some ⟨g, 0, none⟩) (m + 1) cap) (m + 1) (jvals (L f) ++ [.int .i64 t])) (grow : (wr.alloc o).grownBy w1 (sv f).ownBlock) (hat : (sv f).ownBlock = some g ∨ g = wr.heap.size + 1) :
    w1.cell? ⟨h, f, none⟩ = some (sv f) ∧ w1.frozen? ⟨h, f, none⟩ = false ∧ NextOff eb (w1.setCell ⟨h, f, none⟩ (.slice (some ⟨g, 0, none⟩) (m + 1) cap)) B h n (fun v => if v = f then L v ++ [t] else L v) := by
  have KA : Kept wr (wr.alloc o) := (Kept.refl wr).alloc o
  have lh := r.lt
  have lhA : h < (wr.alloc o).heap.size := Nat.lt_of_lt_of_le lh KA.size
  have rA : (wr.alloc o).rowIs h 43 n sv := r.alloc o
  have r1 : w1.rowIs h 43 n sv := rA.of_block (grow.block h lhA (fun e => a f hf e.symm))
  have gh : g ≠ h := by
    rcases hat with e | e
    · intro t; exact a f hf (by rw [e, t])
    · omega
  have ngh : (Value.slice (some ⟨g, 0, none⟩) (m + 1) cap).ownBlock ≠ some h := by simp [Value.ownBlock]; exact gh
  have hs : (w1.setCell ⟨h, f, none⟩ (.slice (some ⟨g, 0, none⟩) (m + 1) cap)).heap.size = w1.heap.size := by simp [World.setCell]
  refine ⟨r1.cell hf, r1.frozen f, ⟨fun v => if v = f then .slice (some ⟨g, 0, none⟩) (m + 1) cap else sv v, r1.set f _, fun v hv => ?_, fun v hv => ?_, fun u v hu hv huv k hk => ?_, fun v hv k hk => ?_⟩, ge⟩
  · by_cases e : v = f
    · subst e
      simp only [if_true]
      rw [List.length_append, hm, ← jvals_snoc]
      exact ownsRow_setCell_other own ngh _
    · simp only [e, if_false]
      have o1 := ((ow v hv).alloc o).kept grow (by
        cases hb : (sv v).ownBlock with
        | none => exact .inl rfl
        | some k => exact .inr (fun t => b v f hv hf e k hb (by rw [← t])))
      exact ownsRow_setCell_other o1 (a v hv) _
  · by_cases e : v = f
    · simp only [e, if_true]; exact ngh
    · simp only [e, if_false]; exact a v hv
  · by_cases e1 : u = f
    · subst e1
      simp only [if_true] at hk
      have e2 : ¬ v = u := fun t => huv t.symm
      simp only [e2, if_false]
      have hk' : g = k := by simpa [Value.ownBlock] using hk
      subst hk'
      rcases hat with t | t
      · exact b u v hu hv huv g t
      · intro s
        have := ((ow v hv).lt g s).2
        omega
    · simp only [e1, if_false] at hk
      by_cases e2 : v = f
      · subst e2
        simp only [if_true]
        intro s
        have hk' : g = k := by simpa [Value.ownBlock] using s
        subst hk'
        rcases hat with t | t
        · exact b u v hu hv huv g hk t
        · have := ((ow u hu).lt g hk).2
          omega
      · simp only [e2, if_false]
        exact b u v hu hv huv k hk
  · by_cases e : v = f
    · simp only [e, if_true] at hk
      have hk' : g = k := by simpa [Value.ownBlock] using hk
      rw [← hk']; exact hgb
    · simp only [e, if_false] at hk
      exact off v hv k hk

/-- One of the lists grows: what the append's answer and the store leave. -/
theorem next_onto {W2 W0 : World} {q n f eb len : Nat} {L : Nat → List Int} {so : Option Addr} {sc : Nat} {sv : Nat → Value} {x c0 c1 : Int} (hW0 : W0.heap.size = q) (r2 : W2.rowIs q 43 n sv) (ow2 : ∀ v, v < n → W2.ownsRow q 3 1 (sv v) (L v).length (jvals (L v))) (a : ∀ v, v < n → (sv v).ownBlock ≠ some q)
    (bb : ∀ u v, u < n → v < n → u ≠ v → ∀ k, (sv u).ownBlock = some k → (sv v).ownBlock ≠ some k) (hf : f < n) (SV : sv f = .slice so len sc) (HLEN : (L f).length = len) (K2 : Kept W0 W2)
    (e0 : W2.cell? ⟨eb, 0, none⟩ = some (.int .i64 c0)) (e1 : W2.cell? ⟨eb, 1, none⟩ = some (.int .i64 c1)) (heb : ∀ v, v < n → ∀ k, (sv v).ownBlock = some k → k ≠ eb) (heb2 : eb < W2.heap.size) :
    ∀ w1 g cap3, w1.ownsRow q 3 1 (.slice (some ⟨g, 0, none⟩) (len + 1) cap3) (len + 1) (jvals (L f) ++ [.int .i64 x]) → (W2.alloc (Obj.cells #[.int .i64 x] 3)).grownBy w1 (Value.slice so len sc).ownBlock → ((Value.slice so len sc).ownBlock = some g ∨ g = W2.heap.size + 1) →
          w1.cell? ⟨eb, 0, none⟩ = some (.int .i64 c0) ∧ w1.cell? ⟨eb, 1, none⟩ = some (.int .i64 c1) ∧ w1.cell? ⟨q, f, none⟩ = some (.slice so len sc) ∧ w1.frozen? ⟨q, f, none⟩ = false ∧ NextOff eb (w1.setCell ⟨q, f, none⟩ (.slice (some ⟨g, 0, none⟩) (len + 1) cap3)) q q n (fun v => if v = f then L v ++ [x] else L v) ∧ Kept W0 (w1.setCell ⟨q, f, none⟩ (.slice (some ⟨g, 0, none⟩) (len + 1) cap3)) := fun w1 g cap3 own grow hat => by
  have ba := grow.cell ((Kept.refl W2).alloc (Obj.cells #[.int .i64 x] 3) |>.cell e0) (fun e => heb f hf eb (by rw [SV]; exact e.symm) rfl)
  have bc := grow.cell ((Kept.refl W2).alloc (Obj.cells #[.int .i64 x] 3) |>.cell e1) (fun e => heb f hf eb (by rw [SV]; exact e.symm) rfl)
  rw [← SV] at grow hat
  obtain ⟨t1, t2, t3⟩ := next_growO (wr := W2) r2 ow2 a bb (Nat.le_refl _) heb (by rcases hat with e | e; exact heb f hf g e; omega) hf HLEN own grow hat
  rw [SV] at t1
  refine ⟨ba, bc, t1, t2, t3, ?_⟩
  have KX := Below.grown (K2.alloc (Obj.cells #[.int .i64 x] 3)) grow (K2.alloc (Obj.cells #[.int .i64 x] 3)).size (fun j hj => by have := ((ow2 f hf).lt j hj).1; rw [hW0]; exact this)
  exact Kept.setCell KX (by rw [hW0]; exact Nat.le_refl _) _

set_option maxRecDepth 100000 in
set_option linter.unusedSimpArgs false in
set_option maxHeartbeats 4000000 in
theorem partOf_calls (n : Nat) (hn : n ≤ 1024) (ao : Option Addr) (m cap : Nat) (es : List Ed) (w : World) (h : ERow w ao m cap es) (hm4 : m ≤ 4096) (hrg : Hid (∀ e ∈ es, 0 ≤ e.f ∧ e.f < (n : Int) ∧ 0 ≤ e.t ∧ e.t < (n : Int))) (s : Nat) (hs : s < n) :
    Calls Try.prog 95 #[.int .i64 (s : Int), .agg #[.int .i64 (n : Int), .slice ao m cap]] w fun r w' => ∃ g, r = .returned (.slice (some ⟨g, 0, none⟩) n n) ∧ ∃ b, BlsAt w' g n b ∧ (∀ v, v < n → (b v = true ↔ Way (outs (both es)) s v)) ∧ Kept w w' := by
  have hl1 : m ≤ es.length := Nat.le_of_eq h.len
  have HLN := hid_of h.len
  have hr := h.room
  have hm := h.most
  unfold maxLen at hm
  obtain ⟨i0, hi, hz0, hz1, hz2⟩ := infoJ
  have hmk : ∀ w : World, (Instr.makeSlice 142 (.int .i64 (n : Int)) (.int .i64 (n : Int))).run Try.prog w = .ok (.slice (some ⟨w.heap.size, 0, none⟩) n n) (w.alloc (.cells (madeCells #[.slice none 0 0] n) 43)) :=
    fun w => run_make_row' 142 43 (.slice none 0 0) 24 Try.underlying142 infoS0 rfl .i64 .i64 n (by omega) (by omega) w
  have KG : Kept w (w.alloc (Obj.cells #[.int .i64 (n : Int), .slice ao m cap] 24)) := (Kept.refl w).alloc _
  have g0 : (w.alloc (Obj.cells #[.int .i64 (n : Int), .slice ao m cap] 24)).cell? ⟨w.heap.size, 0, none⟩ = some (.int .i64 (n : Int)) := by simp [go_sem]
  have g1 : (w.alloc (Obj.cells #[.int .i64 (n : Int), .slice ao m cap] 24)).cell? ⟨w.heap.size, 1, none⟩ = some (.slice ao m cap) := by simp [go_sem]
  have hz : (w.alloc (Obj.cells #[.int .i64 (n : Int), .slice ao m cap] 24)).heap.size = w.heap.size + 1 := by simp
  go_enter Try.func95, Try.ntmps95
  go_upto_region 1 with fail
  generalize hW0 : w.alloc (Obj.cells #[.int .i64 (n : Int), .slice ao m cap] 24) = W0 at KG g0 g1 hz ⊢
  clear hW0
  have K1 : Kept W0 (W0.alloc (.cells (madeCells #[.slice none 0 0] n) 43)) := (Kept.refl W0).alloc _
  have R1 : (W0.alloc (.cells (madeCells #[.slice none 0 0] n) 43)).rowIs W0.heap.size 43 n (fun _ => .slice none 0 0) := World.rowIs_made W0 _ n _
  have N1 : Hid (NextAt (W0.alloc (.cells (madeCells #[.slice none 0 0] n) 43)) W0.heap.size W0.heap.size n (adj es 0)) :=
    ⟨⟨_, R1, fun v hv => World.ownsRow_nil _ _ _ _, fun v hv => by simp [Value.ownBlock], fun u v hu hv huv k hk => by simp [Value.ownBlock] at hk⟩, Nat.le_refl _⟩
  have HE := hid_of (h.kept KG)
  have p0 := K1.cell g0
  have p1 := K1.cell g1
  have K1H := hid_of K1
  have KGH := hid_of KG
  clear R1 h
  go_upto_region 2 with fail
  generalize hW1 : W0.alloc (.cells (madeCells #[.slice none 0 0] n) 43) = W1 at K1 N1 p0 p1 K1H ⊢
  clear hW1 hmk K1
  obtain ⟨q, hq⟩ : ∃ q, w.heap.size + 1 = q := ⟨_, rfl⟩
  rw [hz] at N1
  rw [hq] at N1 ⊢
  have HQ : Hid (W0.heap.size = q) := hz.trans hq
  have HQ2 : w.heap.size + 1 ≤ q := by omega
  clear hq hz KG
  go_wp2_with fail
  go_loopw [7, 19] (fun _ i wr => ∃ k : Nat, k ≤ m ∧ i = .int .i64 k ∧ NextAt wr q q n (adj es k) ∧ Kept W0 wr) (fun _ i _ => m - (intOf i).toNat)
  case atStart => exact ⟨0, by omega, rfl, N1.out, K1H.out⟩
  case round =>
    obtain ⟨k, hk, rfl, NR, K⟩ := hrel
    clear N1 K1H p0 p1
    by_cases hgo : (k : Int) < (m : Int)
    · obtain ⟨b, off, rfl, hc⟩ := HE.out.cell (by omega)
      obtain ⟨d1, d2, d3, d4⟩ := hc k (by omega)
      replace d1 := K.cell d1
      replace d2 := K.cell d2
      replace d3 := K.cell d3
      replace d4 := K.cell d4
      clear hc
      have hkl : k < es.length := by omega
      have RG := hrg.out _ (mem_at hkl)
      obtain ⟨f, hf⟩ : ∃ f : Nat, (edAt es k).f = (f : Int) := ⟨(edAt es k).f.toNat, by omega⟩
      obtain ⟨t, ht⟩ : ∃ t : Nat, (edAt es k).t = (t : Int) := ⟨(edAt es k).t.toNat, by omega⟩
      have hfn : f < n := by rw [hf] at RG; omega
      have htn : t < n := by rw [ht] at RG; omega
      have SU := hid_of (adj_two es k f t hf ht)
      rw [hf] at d1
      rw [ht] at d2
      generalize (edAt es k).c = ec at d3
      generalize (edAt es k).k = ek at d4
      clear RG hf ht
      obtain ⟨sv, r, ow, a, bb⟩ := NR.ex
      have hll : (adj es k f).length ≤ 2 * k := adj_len es k f
      have hlt2 : (adj es k t).length ≤ 2 * k := adj_len es k t
      obtain ⟨len, hlen⟩ : ∃ len, (adj es k f).length = len := ⟨_, rfl⟩
      have HLEN := hid_of hlen
      rw [hlen] at hll
      have owf := ow f hfn
      rw [hlen] at owf
      have rlt := r.lt
      obtain ⟨so, sc, hsv⟩ := owns_slice1j owf
      have SV := hid_of hsv
      have lw : q < wr.heap.size := rlt
      have hebq : ¬ wr.heap.size = q := by omega
      have KE : Kept wr (wr.alloc (Obj.cells #[.int .i64 (f : Int), .int .i64 (t : Int), .int .i64 ec, .int .i64 ek] 98)) := (Kept.refl wr).alloc _
      have e0 : (wr.alloc (Obj.cells #[.int .i64 (f : Int), .int .i64 (t : Int), .int .i64 ec, .int .i64 ek] 98)).cell? ⟨wr.heap.size, 0, none⟩ = some (.int .i64 (f : Int)) := by simp [go_sem]
      have e1 : (wr.alloc (Obj.cells #[.int .i64 (f : Int), .int .i64 (t : Int), .int .i64 ec, .int .i64 ek] 98)).cell? ⟨wr.heap.size, 1, none⟩ = some (.int .i64 (t : Int)) := by simp [go_sem]
      have hfi : (f : Int) < (n : Int) := by omega
      have hti : (t : Int) < (n : Int) := by omega
      have hob : Hid (∀ v, v < n → ∀ k, (sv v).ownBlock = some k → k ≠ wr.heap.size) := fun v hv k hk => by have := ((ow v hv).lt k hk).2; omega
      go_upto_region 5 with fail
      clear d1 d2 d3 d4 owf hsv hlen NR lw rlt
      have lwr : wr.heap.size < (wr.alloc (Obj.cells #[.int .i64 (f : Int), .int .i64 (t : Int), .int .i64 ec, .int .i64 ek] 98)).heap.size := by simp
      generalize hW2 : wr.alloc (Obj.cells #[.int .i64 (f : Int), .int .i64 (t : Int), .int .i64 ec, .int .i64 ek] 98) = W2 at KE e0 e1 lwr ⊢
      clear hW2
      have r2 : W2.rowIs q 43 n sv := r.of_block (KE.block q r.lt)
      have ow2 : ∀ v, v < n → W2.ownsRow q 3 1 (sv v) (adj es k v).length (jvals (adj es k v)) := fun v hv => ownsK (ow v hv) KE
      have rc := r2.cell hfn
      have rz := r2.frozen f
      have lq := r2.lt
      rw [SV.out] at rc
      have owf := ow2 f hfn
      rw [SV.out, HLEN.out] at owf
      have bB : q ≤ W2.heap.size := Nat.le_of_lt lq
      have hl3 : len + 1 ≤ 8193 := by omega
      have STEP : Hid (∀ (WX : World), Kept W2 WX → (∀ j u', ([.int .i64 (t : Int)] : List Value)[j]? = some u' → (WX.alloc (Obj.cells #[.int .i64 (t : Int)] 3)).cell? ((⟨WX.heap.size, 0, none⟩ : Addr).add j) = some u') ∧ (WX.alloc (Obj.cells #[.int .i64 (t : Int)] 3)).ownsRow q 3 1 (.slice so len sc) len (jvals (adj es k f)) ∧ q ≤ WX.heap.size ∧
          ∀ w1 g cap3, w1.ownsRow q 3 1 (.slice (some ⟨g, 0, none⟩) (len + 1) cap3) (len + 1) (jvals (adj es k f) ++ [.int .i64 (t : Int)]) → (WX.alloc (Obj.cells #[.int .i64 (t : Int)] 3)).grownBy w1 (Value.slice so len sc).ownBlock → ((Value.slice so len sc).ownBlock = some g ∨ g = WX.heap.size + 1) →
          w1.cell? ⟨wr.heap.size, 0, none⟩ = some (.int .i64 (f : Int)) ∧ w1.cell? ⟨wr.heap.size, 1, none⟩ = some (.int .i64 (t : Int)) ∧ w1.cell? ⟨q, f, none⟩ = some (.slice so len sc) ∧ w1.frozen? ⟨q, f, none⟩ = false ∧ NextOff wr.heap.size (w1.setCell ⟨q, f, none⟩ (.slice (some ⟨g, 0, none⟩) (len + 1) cap3)) q q n (fun v => if v = f then adj es k v ++ [(t : Int)] else adj es k v) ∧ Kept W0 (w1.setCell ⟨q, f, none⟩ (.slice (some ⟨g, 0, none⟩) (len + 1) cap3))) := fun WX KX =>
        ⟨cell_newj WX 3 (.int .i64 (t : Int)), (ownsK owf KX).alloc _, Nat.le_trans bB KX.size, next_onto (x := (t : Int)) HQ.out (r2.of_block (KX.block q lq)) (fun v hv => ownsK (ow2 v hv) KX) a bb hfn SV.out HLEN.out ((K.trans KE).trans KX) (KX.cell e0) (KX.cell e1) hob.out (Nat.lt_of_lt_of_le lwr KX.size)⟩
      obtain ⟨eb, heb⟩ : ∃ eb, wr.heap.size = eb := ⟨_, rfl⟩
      rw [heb] at e0 e1 STEP lwr hebq ⊢
      clear r ow r2 ow2 owf KE K a bb hob heb
      have rz' : (W2.drewN 1).frozen? ⟨q, f, none⟩ = false := rz
      have rc' : (W2.drewN 1).cell? ⟨q, f, none⟩ = some (.slice so len sc) := rc
      refine Ord.regionZ 13 [(0, 0), (1, 0), (2, 1), (3, 0), (4, 0), (5, 1), (6, 0), (7, 1), (8, 0), (9, 1), (10, 2), (11, 2), (12, 0), (13, 3)] (Seen eb q f (f : Int) (t : Int) (.slice so len sc)) (by kernel_rfl) (by kernel_rfl) (by kernel_rfl) (by kernel_rfl) (fun _ _ d _ _ h => by cases d <;> exact h) ⟨e0, e1, rc⟩ ?_
      repeat
        refine Ord.stepZ rfl (fun Ko hK => ?_)
        first
          | (simp only [Ord.bodyZ, Ord.body]
             go_simp
             first
               | (refine hK _ _ ?_; clear hK Ko)
               | (refine ⟨_, fun w' hS => (by have c0 := hS.a; have c1 := hS.b; have c2 := hS.c; simp only [c0, c1, c2, Result.andThen]; rfl), hK _ _ ?_⟩; clear hK Ko)
               | (refine ⟨⟨((Kept.refl W2).drewN 1 |>.alloc _).cell e0, ((Kept.refl W2).drewN 1 |>.alloc _).cell e1, ((Kept.refl W2).drewN 1 |>.alloc _).cell rc⟩, hK _ _ ?_⟩; clear hK Ko))
      refine Ord.stepZ rfl (fun Ko hK => ?_)
      simp only [Ord.bodyZ, Ord.body, List.getElem_toArray, List.getElem_cons_succ, List.getElem_cons_zero]
      rw [if_pos (show Region.wanted _ _ = true from rfl)]
      obtain ⟨s1, s2, s3, s4⟩ := STEP.out (W2.drewN 1) ((Kept.refl W2).drewN 1)
      refine wp_append_lies _ (.tmp 30) (.tmp 33) 43 (by rfl) q 3 i0 _ 1 8 Try.underlying43 hi hz0 hz1 hz2 rfl (by decide) _ _ _ (by rfl) s2 ⟨(W2.drewN 1).heap.size, 0, none⟩ 1 1 [.int .i64 (t : Int)] (by rfl) rfl s1 (by intro u hu; simp at hu; subst hu; rfl) (by decide) (by unfold maxLen; omega) (by omega) (Nat.le_trans s3 (by simp)) ((W2.drewN 1).heap.size + 1) (by simp) ?_
      intro g cap3 w1 own grow hat hlt
      obtain ⟨q0, q0', q1, q2, q3, q4⟩ := s4 w1 g cap3 own grow hat
      refine ⟨⟨q0, q0', q1⟩, hK _ _ ?_⟩
      clear hK Ko s1 s2 s3 s4
      repeat
        refine Ord.stepZ rfl (fun Ko hK => ?_)
        simp only [Ord.bodyZ, Ord.body]
        go_simp
        (refine hK _ _ ?_; clear hK Ko)
      refine Ord.doneZ ?_
      have hw1 : (w1.setCell ⟨q, f, none⟩ (.slice (some ⟨g, 0, none⟩) (len + 1) cap3)).heap.size = w1.heap.size := by simp [World.setCell]
      have lt1 : eb < (w1.setCell ⟨q, f, none⟩ (.slice (some ⟨g, 0, none⟩) (len + 1) cap3)).heap.size := by rw [hw1]; exact lt_cell q0
      have x0 : (w1.setCell ⟨q, f, none⟩ (.slice (some ⟨g, 0, none⟩) (len + 1) cap3)).cell? ⟨eb, 0, none⟩ = some (.int .i64 (f : Int)) := by
        rw [World.cell?_setCell_other _ _ _ _ (fun e => by have := congrArg Addr.block e; simp at this; omega)]; exact q0
      have x1 : (w1.setCell ⟨q, f, none⟩ (.slice (some ⟨g, 0, none⟩) (len + 1) cap3)).cell? ⟨eb, 1, none⟩ = some (.int .i64 (t : Int)) := by
        rw [World.cell?_setCell_other _ _ _ _ (fun e => by have := congrArg Addr.block e; simp at this; omega)]; exact q0'
      clear e0 e1 rc rz rc' rz' q0 q0' q1 q2 own grow hat hlt STEP hw1 lwr bB lq
      generalize w1.setCell ⟨q, f, none⟩ (.slice (some ⟨g, 0, none⟩) (len + 1) cap3) = W3 at q3 q4 lt1 x0 x1 ⊢
      have hl5 : ((fun v => if v = f then adj es k v ++ [(t : Int)] else adj es k v) t).length ≤ 2 * k + 1 := by
        dsimp only
        split
        · rw [List.length_append]; simp; omega
        · omega
      obtain ⟨L1, hL1⟩ : ∃ L1 : Nat → List Int, L1 = fun v => if v = f then adj es k v ++ [(t : Int)] else adj es k v := ⟨_, rfl⟩
      rw [← hL1] at q3 hl5
      have SU2 : Hid (adj es (k + 1) = fun v => if v = t then L1 v ++ [(f : Int)] else L1 v) := by rw [hL1]; exact SU.out
      clear SU hL1 hlt2 hll HLEN SV
      obtain ⟨sv2, r, ow, a, bb, hob⟩ := q3.ex
      clear q3
      obtain ⟨len2, hlen2⟩ : ∃ len, (L1 t).length = len := ⟨_, rfl⟩
      rw [hlen2] at hl5
      have HLEN2 := hid_of hlen2
      have owt := ow t htn
      rw [hlen2] at owt
      obtain ⟨so2, sc2, hsv2⟩ := owns_slice1j owt
      have SV2 := hid_of hsv2
      have rc := r.cell htn
      have rz := r.frozen t
      have lq := r.lt
      rw [hsv2] at rc owt
      have hl6 : len2 + 1 ≤ 8194 := by omega
      have bB : q ≤ W3.heap.size := Nat.le_of_lt lq
      have STEP : Hid (∀ (WX : World), Kept W3 WX → (∀ j u', ([.int .i64 (f : Int)] : List Value)[j]? = some u' → (WX.alloc (Obj.cells #[.int .i64 (f : Int)] 3)).cell? ((⟨WX.heap.size, 0, none⟩ : Addr).add j) = some u') ∧ (WX.alloc (Obj.cells #[.int .i64 (f : Int)] 3)).ownsRow q 3 1 (.slice so2 len2 sc2) len2 (jvals (L1 t)) ∧ q ≤ WX.heap.size ∧
          ∀ w1 g cap3, w1.ownsRow q 3 1 (.slice (some ⟨g, 0, none⟩) (len2 + 1) cap3) (len2 + 1) (jvals (L1 t) ++ [.int .i64 (f : Int)]) → (WX.alloc (Obj.cells #[.int .i64 (f : Int)] 3)).grownBy w1 (Value.slice so2 len2 sc2).ownBlock → ((Value.slice so2 len2 sc2).ownBlock = some g ∨ g = WX.heap.size + 1) →
          w1.cell? ⟨eb, 0, none⟩ = some (.int .i64 (f : Int)) ∧ w1.cell? ⟨eb, 1, none⟩ = some (.int .i64 (t : Int)) ∧ w1.cell? ⟨q, t, none⟩ = some (.slice so2 len2 sc2) ∧ w1.frozen? ⟨q, t, none⟩ = false ∧ NextOff eb (w1.setCell ⟨q, t, none⟩ (.slice (some ⟨g, 0, none⟩) (len2 + 1) cap3)) q q n (fun v => if v = t then L1 v ++ [(f : Int)] else L1 v) ∧ Kept W0 (w1.setCell ⟨q, t, none⟩ (.slice (some ⟨g, 0, none⟩) (len2 + 1) cap3))) := fun WX KX =>
        ⟨cell_newj WX 3 (.int .i64 (f : Int)), (ownsK owt KX).alloc _, Nat.le_trans bB KX.size, next_onto (x := (f : Int)) HQ.out (r.of_block (KX.block q lq)) (fun v hv => ownsK (ow v hv) KX) a bb htn SV2.out HLEN2.out (Kept.trans q4 KX) (KX.cell x0) (KX.cell x1) hob (Nat.lt_of_lt_of_le lt1 KX.size)⟩
      clear r ow owt a bb hob q4 hsv2 hlen2
      have rz' : (W3.drewN 1).frozen? ⟨q, t, none⟩ = false := rz
      have rc' : (W3.drewN 1).cell? ⟨q, t, none⟩ = some (.slice so2 len2 sc2) := rc
      go_wp2_with fail
      refine Ord.regionZ 13 [(0, 0), (1, 0), (2, 1), (3, 0), (4, 0), (5, 1), (6, 0), (7, 1), (8, 0), (9, 1), (10, 2), (11, 2), (12, 0), (13, 3)] (Seen eb q t (f : Int) (t : Int) (.slice so2 len2 sc2)) (by kernel_rfl) (by kernel_rfl) (by kernel_rfl) (by kernel_rfl) (fun _ _ d _ _ h => by cases d <;> exact h) ⟨x0, x1, rc⟩ ?_
      repeat
        refine Ord.stepZ rfl (fun Ko hK => ?_)
        simp only [Ord.bodyZ, Ord.body]
        go_simp
        first
          | (refine hK _ _ ?_; clear hK Ko)
          | (refine ⟨_, fun w' hS => (by have c0 := hS.a; have c1 := hS.b; have c2 := hS.c; simp only [c0, c1, c2, Result.andThen]; rfl), hK _ _ ?_⟩; clear hK Ko)
          | (refine ⟨⟨((Kept.refl W3).drewN 1 |>.alloc _).cell x0, ((Kept.refl W3).drewN 1 |>.alloc _).cell x1, ((Kept.refl W3).drewN 1 |>.alloc _).cell rc⟩, hK _ _ ?_⟩; clear hK Ko)
      refine Ord.stepZ rfl (fun Ko hK => ?_)
      simp only [Ord.bodyZ, Ord.body, List.getElem_toArray, List.getElem_cons_succ, List.getElem_cons_zero]
      rw [if_pos (show Region.wanted _ _ = true from rfl)]
      obtain ⟨s1, s2, s3, s4⟩ := STEP.out (W3.drewN 1) ((Kept.refl W3).drewN 1)
      refine wp_append_lies _ (.tmp 43) (.tmp 46) 43 (by rfl) q 3 i0 _ 1 8 Try.underlying43 hi hz0 hz1 hz2 rfl (by decide) _ _ _ (by rfl) s2 ⟨(W3.drewN 1).heap.size, 0, none⟩ 1 1 [.int .i64 (f : Int)] (by rfl) rfl s1 (by intro u hu; simp at hu; subst hu; rfl) (by decide) (by unfold maxLen; omega) (by omega) (Nat.le_trans s3 (by simp)) ((W3.drewN 1).heap.size + 1) (by simp) ?_
      intro g2 cap4 w2 own grow hat hlt
      obtain ⟨q0, q0', q1, q2, q3, q4⟩ := s4 w2 g2 cap4 own grow hat
      refine ⟨⟨q0, q0', q1⟩, hK _ _ ?_⟩
      clear hK Ko s1 s2 s3 s4
      repeat
        refine Ord.stepZ rfl (fun Ko hK => ?_)
        simp only [Ord.bodyZ, Ord.body]
        go_simp
        (refine hK _ _ ?_; clear hK Ko)
      refine Ord.doneZ ?_
      have Q3 := hid_of q3.at
      rw [← SU2.out] at Q3
      have Q4 := hid_of q4
      clear x0 x1 rc rz rc' rz' q0 q0' q1 q2 q3 q4 own grow hat hlt STEP
      generalize w2.setCell ⟨q, t, none⟩ (.slice (some ⟨g2, 0, none⟩) (len2 + 1) cap4) = W5 at Q3 Q4 ⊢
      go_wp2
      go_roundw
      case rel => exact ⟨k + 1, by omega, by go_num, Q3.out, Q4.out⟩
      case measure => simp [intOf]; omega
    · obtain rfl : k = m := by omega
      obtain ⟨sv, r, ow, -, -⟩ := NR.ex
      have RD0 : Hid (∀ v, v < n → ∃ so sc, wr.cell? ⟨q, v, none⟩ = some (.slice so (adj es k v).length sc) ∧ (adj es k v).length ≤ sc ∧ sc ≤ maxLen ∧ (0 < (adj es k v).length → ∃ b off, so = some ⟨b, off, none⟩ ∧ b < wr.heap.size ∧ ∀ j, j < (adj es k v).length → wr.cell? ⟨b, off + j, none⟩ = some (.int .i64 ((adj es k v).getD j 0)))) := fun v hv => by
        have o := ow v hv
        obtain ⟨so, sc, e⟩ := owns_slice1j o
        rw [e] at o
        have J := JRow.of_owns o
        refine ⟨so, sc, by rw [r.cell hv, e], J.room, J.most, fun hp => ?_⟩
        obtain ⟨b, off, e2, hc⟩ := J.cell hp
        exact ⟨b, off, e2, (World.ownsRow.lt o b (by rw [e2]; rfl)).2, hc⟩
      have hqw : q < wr.heap.size := r.lt
      have g0' := K.cell g0
      have KF := hid_of (KGH.out.trans K)
      clear r ow NR K HE KGH g0 g1
      have hmkB : ∀ w : World, (Instr.makeSlice 26 (.int .i64 (n : Int)) (.int .i64 (n : Int))).run Try.prog w = .ok (.slice (some ⟨w.heap.size, 0, none⟩) n n) (w.alloc (.cells (madeCells #[.bool false] n) 4)) :=
        fun w => run_make_row' 26 4 (.bool false) 1 Try.underlying26 infoBl0 rfl .i64 .i64 n (by omega) (by omega) w
      have KM : Kept wr (wr.alloc (.cells (madeCells #[.bool false] n) 4)) := (Kept.refl wr).alloc _
      have B0 : BlsAt (wr.alloc (.cells (madeCells #[.bool false] n) 4)) wr.heap.size n (fun _ => false) := World.rowIs_made wr (.bool false) n 4
      have hsi : (s : Int) < (n : Int) := by omega
      have f9 := World.rowIs.frozen B0 s
      have c9 := B0.cell hs
      have hzm : (wr.alloc (.cells (madeCells #[.bool false] n) 4)).heap.size = wr.heap.size + 1 := by simp
      go_upto_region 9 with fail
      generalize wr.alloc (.cells (madeCells #[.bool false] n) 4) = Wm at KM B0 f9 c9 hzm ⊢
      have B1 : Hid (BlsAt (Wm.setCell ⟨wr.heap.size, s, none⟩ (.bool true)) wr.heap.size n (fun v => decide (v ∈ itq (adj es k) s 0))) := (B0.set s true).congr (fun v _ => by
        show Value.bool (if v = s then true else false) = .bool (decide (v ∈ [s]))
        by_cases e : v = s <;> simp [e])
      have K1 : Hid (Kept wr (Wm.setCell ⟨wr.heap.size, s, none⟩ (.bool true))) := KM.setCell (p := ⟨wr.heap.size, s, none⟩) (Nat.le_refl _) _
      have hz1' : (Wm.setCell ⟨wr.heap.size, s, none⟩ (.bool true)).heap.size = wr.heap.size + 1 := by rw [← hzm]; simp [World.setCell]
      go_upto_region 10 with fail
      generalize Wm.setCell ⟨wr.heap.size, s, none⟩ (.bool true) = Wb at B1 K1 hz1' ⊢
      clear hmkB KM B0 f9 c9 hzm
      obtain ⟨gl, hgl⟩ : ∃ gl, wr.heap.size = gl := ⟨_, rfl⟩
      have RD : Hid (∀ v, v < n → ∃ so sc, Wb.cell? ⟨q, v, none⟩ = some (.slice so (adj es k v).length sc) ∧ (adj es k v).length ≤ sc ∧ sc ≤ maxLen ∧ (0 < (adj es k v).length → ∃ b off, so = some ⟨b, off, none⟩ ∧ ¬ b = gl ∧ ∀ j, j < (adj es k v).length → Wb.cell? ⟨b, off + j, none⟩ = some (.int .i64 ((adj es k v).getD j 0)))) := fun v hv => by
        obtain ⟨so, sc, c1, c2, c3, c4⟩ := RD0.out v hv
        refine ⟨so, sc, K1.out.cell c1, c2, c3, fun hp => ?_⟩
        obtain ⟨b, off, e, hb, hc⟩ := c4 hp
        exact ⟨b, off, e, by omega, fun j hj => K1.out.cell (hc j hj)⟩
      have hqg : ¬ q = gl := by omega
      have KF2 := hid_of (KF.out.trans K1.out)
      have hle : w.heap.size ≤ gl := by have := KF.out.size; omega
      rw [hgl] at B1 hz1' ⊢
      have hgb : gl < Wb.heap.size := by omega
      clear hz1'
      clear RD0 KF K1 hgl g0' hqw
      have hmE : k = es.length := HLN.out
      have hLl : Hid (∀ v, (adj es k v).length ≤ 8192) := fun v => by have := adj_len es k v; omega
      have hL : Hid (∀ v, v < n → ∀ t ∈ adj es k v, 0 ≤ t ∧ t < (n : Int)) := fun v hv t ht => by
        obtain ⟨i, hi, ⟨h1, h2⟩ | ⟨h1, h2⟩⟩ := adj_mem.1 ht
        · have := hrg.out _ (mem_at (es := es) (i := i) (by omega)); omega
        · have := hrg.out _ (mem_at (es := es) (i := i) (by omega)); omega
      have END : Hid (∀ K, (∀ j, j < K → j < (itq (adj es k) s j).length) → (itq (adj es k) s K).length = K → ∀ v, v < n → (decide (v ∈ itq (adj es k) s K) = true ↔ Way (outs (both es)) s v)) := fun K h1 h2 v hv => by
        rw [decide_eq_true_iff, itq_end hL.out hs h1 h2 v]
        have aux : ∀ v x, v < n → (x ∈ (adj es k v).map Int.toNat ↔ x ∈ outs (both es) v) := fun v x hv => by
          rw [← adj_outs hrg.out v x, ← hmE]
          constructor
          · intro hx
            obtain ⟨t, ht, rfl⟩ := List.mem_map.1 hx
            have := hL.out v hv t ht
            rw [show ((t.toNat : Nat) : Int) = t by omega]
            exact ht
          · intro hx
            exact List.mem_map.2 ⟨_, hx, by simp⟩
        have ltw : ∀ {v}, Way (fun v => (adj es k v).map Int.toNat) s v → v < n := fun h => by
          induction h with
          | refl => exact hs
          | step _ hx ih =>
            obtain ⟨t, ht, rfl⟩ := List.mem_map.1 hx
            have := hL.out _ ih t ht
            omega
        constructor
        · intro h
          induction h with
          | refl => exact .refl _
          | step hw hx ih => exact (ih (ltw hw)).step ((aux _ _ (ltw hw)).1 hx)
        · intro h
          have : Way (fun v => (adj es k v).map Int.toNat) s v := by
            clear hv
            induction h with
            | refl => exact .refl _
            | step hw hx ih => exact ih.step ((aux _ _ (ltw ih)).2 hx)
          exact this
      clear hmE HLN
      generalize adj es k = L at B1 RD hLl hL END
      have K2 : Kept Wb (Wb.alloc (.cells #[.int .i64 (s : Int)] 3)) := (Kept.refl Wb).alloc _
      have O1 := World.ownsRow_lit (base := Wb.heap.size) (e := 3) (size := 1) Wb #[.int .i64 (s : Int)] 1 (Nat.le_refl _) (by unfold maxLen; omega) rfl
      have I1 := hid_of (B1.out.kept K2)
      have O1H : Hid ((Wb.alloc (.cells #[.int .i64 (s : Int)] 3)).ownsRow Wb.heap.size 3 1 (.slice (some ⟨Wb.heap.size, 0, none⟩) 1 1) 1 (jvals (qz [s]))) := O1
      have C1 : Hid (Ch (fun k => k = gl) Wb (Wb.alloc (.cells #[.int .i64 (s : Int)] 3))) := Ch.of_kept K2
      clear O1 K2 B1
      go_wp2_with fail
      generalize hW1 : Wb.alloc (.cells #[.int .i64 (s : Int)] 3) = W1 at I1 O1H C1 ⊢
      clear hW1
      go_loopw [9, 10, 12] (fun qv a _ wr => ∃ k : Nat, a = .int .i64 (k : Int) ∧ (∀ j, j < k → j < (itq L s j).length) ∧ BlsAt wr gl n (fun v => decide (v ∈ itq L s k)) ∧ wr.ownsRow Wb.heap.size 3 1 qv (itq L s k).length (jvals (qz (itq L s k))) ∧ Ch (fun k => k = gl) Wb wr) (fun _ a _ _ => n - (intOf a).toNat)
      case atStart => exact ⟨0, rfl, fun j hj => by omega, I1.out, O1H.out, C1.out⟩
      case round =>
        obtain ⟨k, rfl, hlt, IR, OR, CR⟩ := hrel
        clear I1 O1H C1
        have HLT := hid_of hlt
        have IRH := hid_of IR
        have CRH := hid_of CR
        have hql := (itq_ok hL.out hs k hlt).len
        clear hlt IR
        obtain ⟨ql, hqle⟩ : ∃ ql, (itq L s k).length = ql := ⟨_, rfl⟩
        have HQL := hid_of hqle
        rw [hqle] at OR hql
        obtain ⟨qo, qc, rfl⟩ := owns_slice1j OR
        have hqr := (JRow.of_owns OR).room
        have hqm := (JRow.of_owns OR).most
        unfold maxLen at hqm
        by_cases hgo : (k : Int) < (ql : Int)
        · have HL2 : Hid (∀ j, j ≤ k → j < (itq L s j).length) := fun j hj => by
            by_cases e : j = k
            · subst e; rw [HQL.out]; omega
            · exact HLT.out j (by omega)
          obtain ⟨v, hv⟩ : ∃ v, (itq L s k).getD k 0 = v := ⟨_, rfl⟩
          have hvn : v < n := by rw [← hv]; exact (itpq_ok hL.out hs k 0 HL2.out).2
          obtain ⟨b0, off0, e0, hc0⟩ := (JRow.of_owns OR).cell (by omega)
          subst e0
          have c0 := hc0 k (by omega)
          rw [qz_get _ _ (by rw [HQL.out]; omega), hv] at c0
          clear hc0
          obtain ⟨so, sc, rd1, rd2, rd3, rd4⟩ := RD.out v hvn
          unfold maxLen at rd3
          have rd5 := CR.cell rd1 hqg
          have hlen := hLl.out v
          obtain ⟨ll, hll⟩ : ∃ ll, (L v).length = ll := ⟨_, rfl⟩
          have HLL := hid_of hll
          rw [hll] at rd1 rd2 rd4 rd5 hlen
          have RD4 := hid_of rd4
          have ORH := hid_of OR
          have HV := hid_of hv
          have hvi : (v : Int) < (n : Int) := by omega
          clear rd4 rd1 OR CR hv hll hqle
          go_wp2_with fail
          have IS : Hid (∃ j : Nat, j ≤ ll ∧ (0 : Int) = (j : Int) ∧ BlsAt wr gl n (fun v => decide (v ∈ itpq L s k j)) ∧ wr.ownsRow Wb.heap.size 3 1 (.slice (some ⟨b0, off0, none⟩) ql qc) (itpq L s k j).length (jvals (qz (itpq L s k j))) ∧ Ch (fun k => k = gl) Wb wr) :=
            ⟨0, by omega, rfl, by rw [itpq_zero]; exact IRH.out, by rw [itpq_zero, HQL.out]; exact ORH.out, CRH.out⟩
          clear IRH ORH CRH rd5 c0
          go_loopw [9, 12, 72] (fun qv _ i w2 => ∃ j : Nat, j ≤ ll ∧ i = .int .i64 (j : Int) ∧ BlsAt w2 gl n (fun v => decide (v ∈ itpq L s k j)) ∧ w2.ownsRow Wb.heap.size 3 1 qv (itpq L s k j).length (jvals (qz (itpq L s k j))) ∧ Ch (fun k => k = gl) Wb w2) (fun _ _ i _ => ll - (intOf i).toNat)
          case atStart =>
            obtain ⟨j, h1, h2, h3⟩ := IS.out
            exact ⟨j, h1, by rw [h2], h3⟩
          case round =>
            obtain ⟨j, hj, rfl, I2, O2, C2⟩ := hrel
            clear IS
            by_cases hgo2 : (j : Int) < (ll : Int)
            · obtain ⟨b1, off1, e1, nb1, hc1⟩ := RD4.out (by omega)
              subst e1
              have c1 := C2.cell (hc1 j (by omega)) nb1
              have hmem : (L v).getD j 0 ∈ L v := by
                have : j < (L v).length := by rw [HLL.out]; omega
                simp [List.getD, this]
              have hxr := hL.out v hvn _ hmem
              obtain ⟨x, hx⟩ : ∃ x : Nat, (L v).getD j 0 = (x : Int) := ⟨((L v).getD j 0).toNat, by omega⟩
              have hxn : x < n := by rw [hx] at hxr; omega
              have hxi : (x : Int) < (n : Int) := by omega
              rw [hx] at c1
              have QO := (itpq_ok hL.out hs k j HL2.out).1
              have SU := hid_of (itpq_succ L s k j (by rw [HV.out, HLL.out]; omega))
              rw [HV.out, hx] at SU
              have hq4 := QO.len
              generalize itpq L s k j = S at I2 O2 SU hq4
              have d1 := I2.cell hxn
              have f1 := World.rowIs.frozen I2 x
              have O2H := hid_of O2
              have C2H := hid_of C2
              have I2H := hid_of I2
              have hnot : ∀ (x : Bool) (w : World), (Op.unary .not (.bool x)).run Try.prog w = .ok (.bool (!x)) w := fun _ _ => rfl
              clear hc1 hmem hxr QO O2 I2 C2 hx
              by_cases hin : x ∈ S
              · have hd : decide (x ∈ S) = true := decide_eq_true hin
                rw [hd] at d1
                have SU2 := hid_of (SU.out.trans (entq_in hin))
                have O4 : Hid (wr.ownsRow Wb.heap.size 3 1 u9 (itpq L s k (j + 1)).length (jvals (qz (itpq L s k (j + 1))))) := by rw [SU2.out]; exact O2H.out
                have I4 : Hid (BlsAt wr gl n (fun v => decide (v ∈ itpq L s k (j + 1)))) := by rw [SU2.out]; exact I2H.out
                clear SU hin hd O2H I2H
                go_wp2_with fail
                go_roundw
                case rel => exact ⟨j + 1, by omega, by go_num, I4.out, O4.out, C2H.out⟩
                case measure => simp [intOf]; omega
              · have hd : decide (x ∈ S) = false := decide_eq_false hin
                rw [hd] at d1
                have SU2 := hid_of (SU.out.trans (entq_out hin))
                have I3H : Hid (BlsAt (wr.setCell ⟨gl, x, none⟩ (.bool true)) gl n (fun v => decide (v ∈ S ++ [x]))) := (I2H.out.set x true).congr (fun v _ => by
                  by_cases e : v = x
                  · subst e; simp
                  · simp [e])
                have C4H : Hid (Ch (fun k => k = gl) Wb (wr.setCell ⟨gl, x, none⟩ (.bool true))) := Ch.setCell (F := fun k => k = gl) C2H.out (p := ⟨gl, x, none⟩) rfl _
                have O3H : Hid ((wr.setCell ⟨gl, x, none⟩ (.bool true)).ownsRow Wb.heap.size 3 1 u9 S.length (jvals (qz S))) := (Ch.setCell (F := fun k => k = gl) (Ch.refl _ wr) (p := ⟨gl, x, none⟩) rfl _).owns O2H.out (fun kk e t => by have := (O2H.out.lt kk e).1; omega)
                have hw3 : Wb.heap.size ≤ (wr.setCell ⟨gl, x, none⟩ (.bool true)).heap.size := C4H.out.size
                clear SU hin hd O2H I2H C2H
                obtain ⟨ln, hln⟩ : ∃ ln, S.length = ln := ⟨_, rfl⟩
                rw [hln] at O3H hq4
                have HLN2 := hid_of hln
                clear hln
                go_upto_region 19 with fail
                generalize wr.setCell ⟨gl, x, none⟩ (.bool true) = w3 at I3H C4H O3H hw3 ⊢
                have NW := hid_of (cell_newj w3 3 (.int .i64 (x : Int)))
                have HM := hid_of (World.ownsRow.alloc O3H.out (Obj.cells #[.int .i64 (x : Int)] 3))
                clear d1 f1 c1
                go_wp2_with (at_builtin; refine wpList_append_own _ rfl _ _ 43 rfl Wb.heap.size 3 i0 (.int .i64 0) 1 8 Try.underlying43 hi hz0 hz1 hz2 rfl (by decide) _ _ _ rfl HM.out ⟨w3.heap.size, 0, none⟩ 1 1 [.int .i64 (x : Int)] rfl rfl NW.out (by intro u hu; simp at hu; subst hu; rfl) (by unfold maxLen; omega) (by omega) (by simp; omega) ?_)
                intro u' w4 hown hgrow _
                have K3 : Kept w3 (w3.alloc (Obj.cells #[.int .i64 (x : Int)] 3)) := (Kept.refl w3).alloc _
                have CG : Ch (fun k => Wb.heap.size ≤ k) w3 w4 := (Ch.of_kept K3).trans (Ch.of_grown hgrow (fun kk e => (O3H.out.lt kk e).1))
                have I4 : Hid (BlsAt w4 gl n (fun v => decide (v ∈ itpq L s k (j + 1)))) := by rw [SU2.out]; exact I3H.out.ch CG (by omega)
                have O4 : Hid (w4.ownsRow Wb.heap.size 3 1 u' (itpq L s k (j + 1)).length (jvals (qz (itpq L s k (j + 1))))) := by
                  rw [SU2.out]
                  show w4.ownsRow Wb.heap.size 3 1 u' (S ++ [x]).length (jvals (qz (S ++ [x])))
                  rw [qz_snoc, ← jvals_snoc, List.length_append, HLN2.out]
                  exact hown
                have C5 : Hid (Ch (fun k => k = gl) Wb w4) := C4H.out.trans' CG (fun i hi => .inr hi)
                clear hown hgrow CG K3 HM NW O3H I3H C4H
                go_wp2_with fail
                go_roundw
                case rel => exact ⟨j + 1, by omega, by go_num, I4.out, O4.out, C5.out⟩
                case measure => simp [intOf]; omega
            · obtain rfl : j = ll := by omega
              have EA := itpq_all L s k j (by rw [HV.out, HLL.out]; exact Nat.le_refl _)
              rw [EA] at I2 O2
              have I2H := hid_of I2
              have O2H := hid_of O2
              have C2H := hid_of C2
              clear EA I2 O2 C2
              go_wp2_with fail
              go_roundw
              case rel => exact ⟨k + 1, by go_num, fun j hj => HL2.out j (by omega), I2H.out, O2H.out, C2H.out⟩
              case measure => simp [intOf]; omega
        · have hkq : ql ≤ k := by omega
          have hkk : Hid (ql = k) := by
            by_cases e : k = 0
            · subst e; exact Nat.le_zero.1 hkq
            · have h1 := HLT.out (k - 1) (by omega)
              obtain ⟨r, hr⟩ := itq_grow L s (k - 1)
              rw [show k - 1 + 1 = k by omega] at hr
              have h3 := HQL.out
              rw [hr, List.length_append] at h3
              show ql = k
              omega
          have IF := hid_of IRH.out
          clear IRH OR CR
          go_wp2_with fail
          go_ret
          exact ⟨gl, rfl, _, IF.out, END.out k HLT.out (HQL.out.trans hkk.out), KF2.out.ch CRH.out (fun i hi => by omega)⟩
end Go.Proofs.Ytomopfjaebcpeaa
