/- hang: a root is hung below another. -/
import Derived.Test.YtipkmnhkmnajoaaUnB
import Derived.Test.YtipkmnhkmnajoaaOrdZ
import Derived.Deep.RegionLaw
import Derived.Maps.AppendAt
import Derived.Deep.AppendLies
namespace Go.Proofs.Ytipkmnhkmnajoaa
open Go.RowKit
open Un

namespace Un
def setUp (T : Nat → Tr) (i x : Nat) : Nat → Tr := fun u => if u = i then ⟨x, (T u).size, (T u).least⟩ else T u
def setSize (T : Nat → Tr) (i x : Nat) : Nat → Tr := fun u => if u = i then ⟨(T u).up, x, (T u).least⟩ else T u
def setLeast (T : Nat → Tr) (i x : Nat) : Nat → Tr := fun u => if u = i then ⟨(T u).up, (T u).size, x⟩ else T u

theorem tvals_up (T : Nat → Tr) (n i x : Nat) (hi : i < n) : (tvals T n).set (i * 3) (.int .i64 (x : Int)) = tvals (setUp T i x) n := by
  refine tvals_ext _ _ _ (by rw [List.length_set, tvals_len]) fun u hu => ?_
  obtain ⟨a1, a2, a3⟩ := tvals_get T n u hu
  have l := tvals_len T n
  unfold setUp
  by_cases e : u = i
  · subst e
    rw [List.getElem?_set_self (by omega), List.getElem?_set_ne (by omega), List.getElem?_set_ne (by omega), a2, a3]
    simp
  · rw [List.getElem?_set_ne (by omega), List.getElem?_set_ne (by omega), List.getElem?_set_ne (by omega), a1, a2, a3]
    simp [e]
theorem tvals_size (T : Nat → Tr) (n i x : Nat) (hi : i < n) : (tvals T n).set (i * 3 + 1) (.int .i64 (x : Int)) = tvals (setSize T i x) n := by
  refine tvals_ext _ _ _ (by rw [List.length_set, tvals_len]) fun u hu => ?_
  obtain ⟨a1, a2, a3⟩ := tvals_get T n u hu
  have l := tvals_len T n
  unfold setSize
  by_cases e : u = i
  · subst e
    rw [List.getElem?_set_ne (by omega), List.getElem?_set_self (by omega), List.getElem?_set_ne (by omega), a1, a3]
    simp
  · rw [List.getElem?_set_ne (by omega), List.getElem?_set_ne (by omega), List.getElem?_set_ne (by omega), a1, a2, a3]
    simp [e]
theorem tvals_least (T : Nat → Tr) (n i x : Nat) (hi : i < n) : (tvals T n).set (i * 3 + 2) (.int .i64 (x : Int)) = tvals (setLeast T i x) n := by
  refine tvals_ext _ _ _ (by rw [List.length_set, tvals_len]) fun u hu => ?_
  obtain ⟨a1, a2, a3⟩ := tvals_get T n u hu
  have l := tvals_len T n
  unfold setLeast
  by_cases e : u = i
  · subst e
    rw [List.getElem?_set_ne (by omega), List.getElem?_set_ne (by omega), List.getElem?_set_self (by omega), a1, a2]
    simp
  · rw [List.getElem?_set_ne (by omega), List.getElem?_set_ne (by omega), List.getElem?_set_ne (by omega), a1, a2, a3]
    simp [e]

/-- What is written one after the other is the tree behind the join. -/
theorem hung (js : List Jn) (b r : Nat) (t : Tr) (hne : b ≠ r) :
    setUp (setLeast (setSize (tr js) r ((tr js r).size + (tr js b).size)) r (min (tr js r).least (tr js b).least)) b r = tr (⟨b, r, t⟩ :: js) := by
  funext u
  have e : tr (⟨b, r, t⟩ :: js) u = if u = r then ⟨(tr js u).up, (tr js u).size + (tr js b).size, min (tr js u).least (tr js b).least⟩ else if u = b then ⟨r, (tr js u).size, (tr js u).least⟩ else tr js u := rfl
  rw [e]
  unfold setUp setLeast setSize
  by_cases c1 : u = r
  · have c2 : ¬ u = b := fun t => hne (t.symm.trans c1)
    subst c1
    simp [c2]
  · by_cases c2 : u = b
    · subst c2; simp [c1]
    · simp [c1, c2]

theorem jcells_one (j : Jn) : ∀ u ∈ jcells j, u.oneCell' = true := by
  intro u hu
  simp only [jcells, List.mem_cons, List.not_mem_nil, or_false] at hu
  rcases hu with rfl | rfl | rfl | rfl | rfl <;> rfl
theorem cell_new5 (w : World) (T : TypeId) (j : Jn) : ∀ k u', (jcells j)[k]? = some u' → (w.alloc (Obj.cells #[.int .i64 (j.below : Int), .int .i64 (j.root : Int), .int .i64 (j.before.up : Int), .int .i64 (j.before.size : Int), .int .i64 (j.before.least : Int)] T)).cell? ((⟨w.heap.size, 0, none⟩ : Addr).add k) = some u' := by
  intro k u' h
  match k, h with
  | 0, h => simp [jcells] at h; subst h; simp [go_sem, Addr.add]
  | 1, h => simp [jcells] at h; subst h; simp [go_sem, Addr.add]
  | 2, h => simp [jcells] at h; subst h; simp [go_sem, Addr.add]
  | 3, h => simp [jcells] at h; subst h; simp [go_sem, Addr.add]
  | 4, h => simp [jcells] at h; subst h; simp [go_sem, Addr.add]
  | k + 5, h => simp [jcells] at h
end Un

theorem infoJn0 : (Try.prog.info? 120).map (fun i => (i.zero, i.size, i.bytes)) = some (some (.agg #[.int .i64 0, .int .i64 0, .int .i64 0, .int .i64 0, .int .i64 0]), 5, 40) := by kernel_rfl
theorem infoJn : ∃ i : TypeInfo, Try.prog.info? 120 = some i ∧ i.zero = some (.agg #[.int .i64 0, .int .i64 0, .int .i64 0, .int .i64 0, .int .i64 0]) ∧ i.size = 5 ∧ i.bytes = 40 := by
  have h := infoJn0
  cases e : Try.prog.info? 120 with
  | none => rw [e] at h; cases h
  | some i =>
    rw [e] at h
    simp only [Option.map_some, Option.some.injEq, Prod.mk.injEq] at h
    exact ⟨i, rfl, h.1, h.2.1, h.2.2⟩

/-- Behind an append onto the joins, and the store into the field. -/
theorem sets_grow {wr w1 : World} {F : Nat → Prop} {p g n cap : Nat} {T : Nat → Tr} {js : List Jn} {ao : Option Addr} {x : Jn} {o : Obj} {g2 cap2 : Nat} (h : SetsT wr F p g n T js)
    (c1 : wr.cell? ⟨p, 1, none⟩ = some (.slice ao js.length cap)) (n2 : (Value.slice ao js.length cap).ownBlock ≠ some p) (n3 : (Value.slice ao js.length cap).ownBlock ≠ some g) (f2 : ∀ k, (Value.slice ao js.length cap).ownBlock = some k → F k)
    (own : w1.ownsRow 0 120 5 (.slice (some ⟨g2, 0, none⟩) (js.length + 1) cap2) (js.length + 1) (jvals js ++ jcells x)) (grow : (wr.alloc o).grownBy w1 (Value.slice ao js.length cap).ownBlock)
    (ha : (Value.slice ao js.length cap).ownBlock = some g2 ∨ g2 = wr.heap.size + 1) :
    w1.cell? ⟨p, 1, none⟩ = some (.slice ao js.length cap) ∧ w1.frozen? ⟨p, 1, none⟩ = false ∧
    SetsT (w1.setCell ⟨p, 1, none⟩ (.slice (some ⟨g2, 0, none⟩) (js.length + 1) cap2)) (fun k => F k ∨ k = g2) p g n T (x :: js) ∧ Ch F wr (w1.setCell ⟨p, 1, none⟩ (.slice (some ⟨g2, 0, none⟩) (js.length + 1) cap2)) ∧ (F g2 ∨ wr.heap.size ≤ g2) := by
  have KA : Kept wr (wr.alloc o) := (Kept.refl wr).alloc o
  have hA := h.kept KA
  have lp := h.lt p h.own
  have lpA := hA.lt p h.own
  have lgA := hA.lt g h.owng
  have b0 := grow.cell hA.c0 (fun e => n2 e.symm)
  have b1 := grow.cell (KA.cell c1) (fun e => n2 e.symm)
  have y0 : w1.frozen? ⟨p, 0, none⟩ = false := (World.frozen?_of_block (a := ⟨p, 0, none⟩) (grow.block p lpA (fun e => n2 e.symm))).trans hA.z0
  have y1 : w1.frozen? ⟨p, 1, none⟩ = false := (World.frozen?_of_block (a := ⟨p, 1, none⟩) (grow.block p lpA (fun e => n2 e.symm))).trans hA.z1
  have hO := hA.o0.kept grow (.inr (fun e => n3 (by rw [← e]; rfl)))
  have np : g2 ≠ p := by
    rcases ha with t | t
    · intro e; exact n2 (by rw [t, e])
    · omega
  have ng : g2 ≠ g := by
    rcases ha with t | t
    · intro e; exact n3 (by rw [t, e])
    · have := h.lt g h.owng; omega
  have s2 : w1.grownBy (w1.setCell ⟨p, 1, none⟩ (.slice (some ⟨g2, 0, none⟩) (js.length + 1) cap2)) (some p) := ⟨rfl, rfl, rfl, by simp [World.setCell], fun k _ hk => Below.heap_setCell _ _ _ _ (fun e => hk (by rw [e]))⟩
  have own2 := own.kept s2 (.inr (fun e => np (by simpa [Value.ownBlock] using e)))
  have hO2 := hO.kept s2 (.inr (fun e => h.ne (by simpa [Value.ownBlock] using e.symm)))
  have e1 := World.cell?_setCell_same w1 ⟨p, 1, none⟩ (.slice (some ⟨g2, 0, none⟩) (js.length + 1) cap2) b1
  have C1 : Ch F wr w1 := (Ch.of_kept KA).trans (.of_grown grow f2)
  have lg2 : g2 < w1.heap.size := (own.lt g2 rfl).2
  refine ⟨b1, y1, ⟨?_, hO2, ⟨some ⟨g2, 0, none⟩, cap2, e1, own2, ?_, ?_, ?_⟩, h.ne, .inl h.own, .inl h.owng, ?_, ?_, ?_, h.few⟩, C1.setCell (p := ⟨p, 1, none⟩) h.own _, ?_⟩
  · rw [World.cell?_setCell_other _ _ _ _ (by simp)]; exact b0
  · intro e; exact np (by simpa [Value.ownBlock] using e)
  · intro e; exact ng (by simpa [Value.ownBlock] using e)
  · intro k e; simp only [Value.ownBlock, Option.some.injEq] at e; exact .inr e.symm
  · simpa [go_sem] using y0
  · simpa [go_sem] using y1
  · intro k hk
    rcases hk with hk | rfl
    · exact Nat.lt_of_lt_of_le (Nat.lt_of_lt_of_le (h.lt k hk) C1.size) s2.size
    · exact Nat.lt_of_lt_of_le lg2 s2.size
  · rcases ha with t | t
    · exact .inl (f2 _ t)
    · exact .inr (by omega)

set_option maxRecDepth 100000 in
set_option maxHeartbeats 2000000 in
theorem hang_calls (w : World) (F : Nat → Prop) (p g n : Nat) (js : List Jn) (h : SetsAt w F p g n js) (b r : Nat) (hb : b < n) (hr : r < n) (hne : b ≠ r) (rb : rt js b = b) (rr : rt js r = r) :
    Calls Try.prog 62 #[.pointer (some ⟨p, 0, none⟩), .int .i64 (b : Int), .int .i64 (r : Int)] w fun e w' => e = .returned (.tuple #[]) ∧
      ∃ F', SetsAt w' F' p g n (⟨b, r, tr js r⟩ :: js) ∧ Ch F w w' ∧ ∀ k, F' k → F k ∨ w.heap.size ≤ k := by
  have H0 := h.base
  have few := h.base.few
  obtain ⟨i0, hi, hz0, hz1, hz2⟩ := infoJn
  obtain ⟨ao, cap, c1, o1, n2, n3, f2⟩ := H0.ex
  have hlen := len_lt h.good
  have c0 := H0.c0
  obtain ⟨r0, r1, r2⟩ := H0.cells r hr
  have NW := hid_of (cell_new5 w.drew 120 ⟨b, r, tr js r⟩)
  have HM := hid_of (World.ownsRow.alloc o1.drew (Obj.cells #[.int .i64 (b : Int), .int .i64 (r : Int), .int .i64 ((tr js r).up : Int), .int .i64 ((tr js r).size : Int), .int .i64 ((tr js r).least : Int)] 120))
  have HGood := hid_of h.good
  have HS := hid_of H0
  have lp := H0.lt p H0.own
  have lg := H0.lt g H0.owng
  have B1 : Hid (js.length + 1 ≤ maxLen) := by show js.length + 1 ≤ maxLen; unfold maxLen; omega
  have B2 : Hid ((js.length + 1) * 40 ≤ 140737488355328) := by show (js.length + 1) * 40 ≤ 140737488355328; omega
  have B3 : Hid (w.drew.heap.size = w.heap.size) := rfl
  clear o1 h
  go_enter Try.func62, Try.ntmps62
  go_wp2_with fail
  go_region_law ((refine step_append_lies _ (by rfl) (.tmp 10) (.tmp 21) 107 (by rfl) 0 120 i0 _ 5 40 Try.underlying107 hi hz0 hz1 hz2 rfl (by decide) _ _ _ (by rfl) HM.out ⟨w.heap.size, 0, none⟩ 1 1 (jcells ⟨b, r, tr js r⟩) (by rfl) rfl NW.out (jcells_one _) (by decide) B1.out B2.out (Nat.zero_le _) (w.heap.size + 1) (by simp) ?_; intro g2 cap2 w1 own grow hat hlt; obtain ⟨q1, q2, q3, q4, q5⟩ := sets_grow (wr := w.drew) (o := Obj.cells #[.int .i64 (b : Int), .int .i64 (r : Int), .int .i64 ((tr js r).up : Int), .int .i64 ((tr js r).size : Int), .int .i64 ((tr js r).least : Int)] 120) (x := ⟨b, r, tr js r⟩) (HS.out.kept (Kept.refl w).drew) c1 n2 n3 f2 own grow hat))
  all_goals
    have HQ4 := hid_of q4
    have HQ5 := hid_of q5
    have HQ3 := hid_of q3
    clear own grow hat hlt q1 q2 q3 q4 q5 r0 r1 r2 c0 c1 n2 n3 f2 HM NW HS hi hz0 hz1 hz2 B1 B2 B3
    generalize w1.setCell ⟨p, 1, none⟩ (.slice (some ⟨g2, 0, none⟩) (js.length + 1) cap2) = W1 at HQ3 HQ4 ⊢
    obtain ⟨r0, r1, r2⟩ := HQ3.out.cells r hr
    obtain ⟨b0, b1, b2⟩ := HQ3.out.cells b hb
    have c0 := HQ3.out.c0
    have fz := HQ3.out.o0.frozenAt (r * 3 + 1)
    have lr := size_root HGood.out hr rr
    have lb := size_root HGood.out hb rb
    have l2 := cnt_two js r b (Ne.symm hne) n
    have SUM : Hid ((((tr js r).size : Nat) : Int) + (((tr js b).size : Nat) : Int) = (((tr js r).size + (tr js b).size : Nat) : Int)) := by show _ = _; omega
    have l3 : (tr js r).size + (tr js b).size ≤ 1024 := by omega
    clear lr lb l2
    generalize hsr : (tr js r).size = sr at *
    generalize hsb : (tr js b).size = sb at *
    have HSR := hid_of hsr
    have HSB := hid_of hsb
    clear hsr hsb
    go_wp2_with fail
    refine Ord.regionZ 19 [(0, 0), (1, 0), (2, 0), (3, 1), (4, 0), (5, 0), (6, 0), (7, 1), (8, 0), (9, 0), (10, 0), (11, 1), (12, 0), (13, 0), (14, 0), (15, 1), (16, 0), (17, 2), (18, 0), (19, 3)] (fun w' => Kept W1 w') (by kernel_rfl) (by kernel_rfl) (by kernel_rfl) (by kernel_rfl) (fun _ _ d _ _ h => by cases d <;> exact h) ((Kept.refl _).drewN _) ?_
    repeat
      refine Ord.stepZ rfl (fun Ko hK => ?_)
      simp only [Ord.bodyZ, Ord.body]
      go_simp
      first
        | (refine hK _ _ ?_; clear hK Ko)
        | (refine ⟨(Kept.refl _).drewN _, hK _ _ ?_⟩; clear hK Ko)
        | (refine ⟨_, fun w' hS => (by have c0 := hS.cell c0; simp only [c0, Result.andThen]; rfl), hK _ _ ?_⟩; clear hK Ko)
        | (refine ⟨_, fun w' hS => (by have c0 := hS.cell r1; simp only [c0, Result.andThen]; rfl), hK _ _ ?_⟩; clear hK Ko)
        | (refine ⟨_, fun w' hS => (by have c0 := hS.cell b1; simp only [c0, Result.andThen]; rfl), hK _ _ ?_⟩; clear hK Ko)
    refine Ord.doneZ ?_
    have WR : IntKind.i64.wrap ((sr : Int) + (sb : Int)) = ((sr + sb : Nat) : Int) := by rw [IntKind.wrap_i64]; first | omega | (unfold wrap64; omega)
    rw [WR]
    obtain ⟨S2, -⟩ := (HQ3.out.kept ((Kept.refl W1).drewN 1)).put (r * 3 + 1) (.int .i64 ((sr + sb : Nat) : Int)) (tvals_size (tr js) n r (sr + sb) hr)
    have C2 : Ch F w.drew ((W1.drewN 1).setCell ⟨g, r * 3 + 1, none⟩ (.int .i64 ((sr + sb : Nat) : Int))) := (HQ4.out.drewN 1).setCell (p := ⟨g, r * 3 + 1, none⟩) H0.owng _
    clear HQ3 HQ4 c0 r0 r1 r2 b0 b1 b2 fz WR SUM
    have S2H := hid_of S2
    have C2H := hid_of C2
    clear S2 C2
    go_wp2_with fail
    generalize (W1.drewN 1).setCell ⟨g, r * 3 + 1, none⟩ (.int .i64 ((sr + sb : Nat) : Int)) = W2 at S2H C2H ⊢
    obtain ⟨-, -, r2⟩ := S2H.out.cells r hr
    obtain ⟨-, -, b2⟩ := S2H.out.cells b hb
    have c0 := S2H.out.c0
    have fz := S2H.out.o0.frozenAt (r * 3 + 2)
    have er : (setSize (tr js) r (sr + sb) r).least = (tr js r).least := by simp [setSize]
    have eb : (setSize (tr js) r (sr + sb) b).least = (tr js b).least := by simp [setSize, hne]
    rw [er] at r2
    rw [eb] at b2
    clear er eb
    have HUNG := hid_of (hung js b r (tr js r) hne)
    rw [HSR.out, HSB.out] at HUNG
    generalize (tr js r).least = xr at r2 HUNG
    generalize (tr js b).least = xb at b2 HUNG
    refine Ord.regionZ 24 [(0, 0), (1, 0), (2, 0), (3, 1), (4, 0), (5, 0), (6, 0), (7, 0), (8, 1), (9, 0), (10, 0), (11, 0), (12, 1), (13, 0), (14, 0), (15, 0), (16, 1), (17, 0), (18, 0), (19, 0), (20, 1), (21, 2), (22, 2), (23, 0), (24, 3)] (fun w' => Kept W2 w') (by kernel_rfl) (by kernel_rfl) (by kernel_rfl) (by kernel_rfl) (fun _ _ d _ _ h => by cases d <;> exact h) ((Kept.refl _).drewN _) ?_
    repeat
      refine Ord.stepZ rfl (fun Ko hK => ?_)
      simp only [Ord.bodyZ, Ord.body]
      go_simp
      first
        | (refine hK _ _ ?_; clear hK Ko)
        | (refine ⟨(Kept.refl _).drewN _, hK _ _ ?_⟩; clear hK Ko)
        | (refine ⟨_, fun w' hS => (by have c0 := hS.cell c0; simp only [c0, Result.andThen]; rfl), hK _ _ ?_⟩; clear hK Ko)
        | (refine ⟨_, fun w' hS => (by have c0 := hS.cell r2; simp only [c0, Result.andThen]; rfl), hK _ _ ?_⟩; clear hK Ko)
        | (refine ⟨_, fun w' hS => (by have c0 := hS.cell b2; simp only [c0, Result.andThen]; rfl), hK _ _ ?_⟩; clear hK Ko)
    refine Ord.doneZ ?_
    have MN : (if xb < xr then (xb : Int) else (xr : Int)) = ((min xr xb : Nat) : Int) := by split <;> omega
    rw [MN]
    obtain ⟨S3, -⟩ := (S2H.out.kept ((Kept.refl W2).drewN 1)).put (r * 3 + 2) (.int .i64 ((min xr xb : Nat) : Int)) (tvals_least _ n r (min xr xb) hr)
    have C3 : Ch F w.drew ((W2.drewN 1).setCell ⟨g, r * 3 + 2, none⟩ (.int .i64 ((min xr xb : Nat) : Int))) := (C2H.out.drewN 1).setCell (p := ⟨g, r * 3 + 2, none⟩) H0.owng _
    generalize (W2.drewN 1).setCell ⟨g, r * 3 + 2, none⟩ (.int .i64 ((min xr xb : Nat) : Int)) = W3 at S3 C3 ⊢
    obtain ⟨S4, -⟩ := S3.put (b * 3) (.int .i64 (r : Int)) (tvals_up _ n b r hb)
    have C4 : Ch F w.drew (W3.setCell ⟨g, b * 3, none⟩ (.int .i64 (r : Int))) := C3.setCell (p := ⟨g, b * 3, none⟩) H0.owng _
    rw [HUNG.out] at S4
    obtain ⟨b0, -, -⟩ := S3.cells b hb
    have c0' := S3.c0
    have fz' := S3.o0.frozenAt (b * 3)
    have FIN : Hid (∃ F', SetsAt (W3.setCell ⟨g, b * 3, none⟩ (.int .i64 (r : Int))) F' p g n (⟨b, r, tr js r⟩ :: js) ∧ Ch F w (W3.setCell ⟨g, b * 3, none⟩ (.int .i64 (r : Int))) ∧ ∀ k, F' k → F k ∨ w.heap.size ≤ k) :=
      ⟨_, ⟨S4, HGood.out, hb, hr, hne, rb, rr, rfl⟩, (Ch.of_kept (Kept.refl w).drew).trans C4, fun k hk => by
        rcases hk with hk | rfl
        · exact .inl hk
        · exact HQ5.out⟩
    clear S2H C2H S3 C3 S4 C4 HUNG c0 r2 b2 fz MN HGood HQ5 H0
    go_wp2_with fail
    go_end0
    exact ⟨rfl, FIN.out⟩
end Go.Proofs.Ytipkmnhkmnajoaa
