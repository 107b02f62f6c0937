/- Levels, in the program. -/
import Derived.Test.YtjheiaegpoppaaaWkD
import Derived.Test.YtjheiaegpoppaaaOrdZ
namespace Go.Proofs.Ytjheiaegpoppaaa
open Go.RowKit

/-- The level behind an edge. -/
def lval (lv : Nat → Int) (v : Nat) : Int := lv v + 1

set_option maxRecDepth 100000 in
set_option maxHeartbeats 2000000 in
theorem lcl_enters (Wb : World) (gl n bx : Nat) (hb : Wb.cell? ⟨bx, 0, none⟩ = some (.slice (some ⟨gl, 0, none⟩) n n)) (hne : ¬ bx = gl) : Enters 44 #[.pointer (some ⟨bx, 0, none⟩)] Wb gl n lval (fun lv => ∀ u, lv u ≤ 2048) := by
  intro w lv v x HI C hv hx hpos hok
  have b0 := C.cell hb hne
  have cv := HI.cell hv
  have cx := HI.cell hx
  have fx := World.rowIs.frozen HI x
  have hok1 := hok v
  have hvi : (v : Int) < (n : Int) := by omega
  have hxi : (x : Int) < (n : Int) := by omega
  have lgl := HI.lt
  by_cases hneg : lv x < 0
  · rw [if_pos hneg]
    have hd : decide (lv x < 0) = true := by simp [hneg]
    rw [hd]
    obtain ⟨lvv, hlv⟩ : ∃ z, lv v = z := ⟨_, rfl⟩
    have hval : lval lv v = lvv + 1 := by unfold lval; rw [hlv]
    rw [hlv] at cv hpos hok1
    have hwr : IntKind.i64.wrap (lvv + 1) = lvv + 1 := by rw [IntKind.wrap_i64]; first | omega | (unfold wrap64; omega)
    have IN : Hid (∀ m, IntsAt ((w.drewN m).setCell ⟨gl, x, none⟩ (.int .i64 (lvv + 1))) gl n (fun j => if j = x then lval lv v else lv j)) := fun m => by rw [hval]; exact IntsAt.set (HI.kept ((Kept.refl w).drewN m)) x (lvv + 1)
    have CN : Hid (∀ m, Ch (fun k => k = gl) w ((w.drewN m).setCell ⟨gl, x, none⟩ (.int .i64 (lvv + 1)))) := fun m => ((Ch.refl (fun k => k = gl) w).drewN m).setCell (F := fun k => k = gl) (p := ⟨gl, x, none⟩) rfl _
    have hge : ¬ 0 ≤ lv x := by omega
    generalize lv x = lx at cx hneg hge
    show Calls Try.prog 44 #[.int .i64 (v : Int), .int .i64 (x : Int), .pointer (some ⟨bx, 0, none⟩)] w _
    clear HI C hok hb hlv hval hd
    go_enter Try.func44, Try.ntmps44
    go_wp2_with fail
    refine Ord.regionZ 8 [(0, 1), (1, 0), (2, 1), (3, 0), (4, 0), (5, 1), (6, 0), (7, 0), (8, 3)] (fun w' => Kept w w') (by kernel_rfl) (by kernel_rfl) (by kernel_rfl) (by kernel_rfl) (fun _ _ d _ _ h => by cases d <;> exact h) ((Kept.refl _).drewN _) ?_
    repeat
      refine Ord.stepZ rfl (fun Ko hK => ?_)
      simp only [Ord.bodyZ, Ord.body]
      go_simp
      first
        | (refine hK _ _ ?_; clear hK Ko)
        | (refine ⟨(Kept.refl _).drewN _, hK _ _ ?_⟩; clear hK Ko)
        | (refine ⟨_, fun w' hS => (by have c0 := hS.cell b0; simp only [c0, Result.andThen]; rfl), hK _ _ ?_⟩; clear hK Ko)
        | (refine ⟨_, fun w' hS => (by have c0 := hS.cell cv; simp only [c0, Result.andThen]; rfl), hK _ _ ?_⟩; clear hK Ko)
    refine Ord.doneZ ?_
    have INH := hid_of (IN.out 1)
    have CNH := hid_of (CN.out 1)
    clear IN CN
    go_wp2_with fail
    go_ret
    exact ⟨rfl, INH.out, CNH.out⟩
  · rw [if_neg hneg]
    have hd : decide (lv x < 0) = false := by simp [hneg]
    rw [hd]
    have HIH := hid_of HI
    have hge : 0 ≤ lv x := by omega
    show Calls Try.prog 44 #[.int .i64 (v : Int), .int .i64 (x : Int), .pointer (some ⟨bx, 0, none⟩)] w _
    clear HI C hok
    go_enter Try.func44, Try.ntmps44
    go_wp2_with fail
    go_ret
    exact ⟨rfl, HIH.out, Ch.refl _ _⟩

theorem ent_le {val : (Nat → Int) → Nat → Int} {v : Nat} {s : Fl} {x : Int} {b : Int} (h : ∀ u, s.lv u ≤ b) (hv : val s.lv v ≤ b) : ∀ u, (ent val v s x).lv u ≤ b := fun u => by
  unfold ent
  split
  · by_cases e : u = x.toNat
    · simp [e, hv]
    · simp [e, h u]
  · exact h u

/-- A level that stands does not change. -/
theorem ent_keep {val : (Nat → Int) → Nat → Int} {v : Nat} {s : Fl} {x : Int} {u : Nat} (h : 0 ≤ s.lv u) : (ent val v s x).lv u = s.lv u := by
  unfold ent
  split
  · rename_i hneg
    by_cases e : u = x.toNat
    · subst e; omega
    · simp [e]
  · rfl

theorem fold_le {v : Nat} {b : Int} (ts : List Int) : ∀ {s : Fl}, (∀ u, s.lv u ≤ b + 1) → 0 ≤ s.lv v → s.lv v ≤ b → (∀ u, (ts.foldl (ent lval v) s).lv u ≤ b + 1) ∧ (ts.foldl (ent lval v) s).lv v = s.lv v := by
  induction ts with
  | nil => intro s h _ _; exact ⟨h, rfl⟩
  | cons t ts ih =>
    intro s h hp hv
    rw [List.foldl_cons]
    have hk := ent_keep (val := lval) (v := v) (x := t) hp
    obtain ⟨h1, h2⟩ := ih (s := ent lval v s t) (ent_le h (by unfold lval; omega)) (by rw [hk]; exact hp) (by rw [hk]; exact hv)
    exact ⟨h1, by rw [h2, hk]⟩

/-- Levels stay small. -/
theorem it_le {n : Nat} {L : Nat → List Int} {s0 : Fl} (hL : ∀ v, v < n → ∀ t ∈ L v, t.toNat < n) (h0 : QOk n s0) (hle : ∀ u, s0.lv u ≤ 0) :
    ∀ k, (∀ j, j < k → j < (it L lval s0 j).q.length) → ∀ u, (it L lval s0 k).lv u ≤ (k : Int) := by
  intro k
  induction k with
  | zero => intro _; exact hle
  | succ k ih =>
    intro hk
    have h := ih (fun j hj => hk j (by omega))
    have hq := QOk.it (val := lval) (fun lv v hv => by unfold lval; omega) hL h0 k (fun j hj => hk j (by omega))
    have hl := hk k (by omega)
    have hm : (it L lval s0 k).q.getD k 0 ∈ (it L lval s0 k).q := by simp [List.getD, hl]
    have := (fold_le (b := (k : Int)) (L ((it L lval s0 k).q.getD k 0)) (s := it L lval s0 k) (fun u => by have := h u; omega) (hq.pos _ hm) (h _)).1
    intro u
    have := this u
    push_cast
    exact this

theorem itp_le {n : Nat} {L : Nat → List Int} {s0 : Fl} (hL : ∀ v, v < n → ∀ t ∈ L v, t.toNat < n) (h0 : QOk n s0) (hle : ∀ u, s0.lv u ≤ 0) (k j : Nat) (hk : ∀ i, i ≤ k → i < (it L lval s0 i).q.length) : ∀ u, (itp L lval s0 k j).lv u ≤ (k : Int) + 1 := by
  have h := it_le hL h0 hle k (fun i hi => hk i (by omega))
  have hq := QOk.it (val := lval) (fun lv v hv => by unfold lval; omega) hL h0 k (fun i hi => hk i (by omega))
  have hl := hk k (by omega)
  have hm : (it L lval s0 k).q.getD k 0 ∈ (it L lval s0 k).q := by simp [List.getD, hl]
  exact (fold_le (b := (k : Int)) ((L ((it L lval s0 k).q.getD k 0)).take j) (s := it L lval s0 k) (fun u => by have := h u; omega) (hq.pos _ hm) (h _)).1

/-- How the levels begin. -/
def lv0 (s : Nat) : Nat → Int := fun j => if j = s then 0 else -1

/-- The levels that the flood leaves: it ends. -/
structure LevOf (es : List Ed) (m n s : Nat) (lv : Nat → Int) : Prop where
  ex : ∃ K, (∀ j, j < K → j < (it (nxt es m) lval ⟨[s], lv0 s⟩ j).q.length) ∧ (it (nxt es m) lval ⟨[s], lv0 s⟩ K).q.length = K ∧ lv = (it (nxt es m) lval ⟨[s], lv0 s⟩ K).lv

theorem nxt_mem {es : List Ed} {k v : Nat} {t : Int} (h : t ∈ nxt es k v) : ∃ e ∈ es, e.f = (v : Int) ∧ e.t = t := by
  unfold nxt at h
  simp only [List.mem_map, List.mem_filter, beq_iff_eq] at h
  obtain ⟨e, ⟨h1, h2⟩, h3⟩ := h
  exact ⟨e, List.mem_of_mem_take h1, h2, h3⟩

theorem nxt_len (es : List Ed) (k v : Nat) : (nxt es k v).length ≤ es.length := by
  unfold nxt
  rw [List.length_map]
  exact Nat.le_trans (List.length_filter_le _ _) (by simp; omega)

set_option maxRecDepth 100000 in
set_option maxHeartbeats 4000000 in
theorem levels_calls (n : Nat) (hn : n ≤ 1024) (ao : Option Addr) (m cap : Nat) (es : List Ed) (w : World) (h : ERow w ao m cap es) (hf : Hid (faultOf (n : Int) es = (0, 0))) (hm4 : m ≤ 4096) (hrg : Hid (∀ e ∈ es, 0 ≤ e.f ∧ e.f < (n : Int) ∧ 0 ≤ e.t ∧ e.t < (n : Int))) (s : Nat) (hs : s < n) :
    Calls Try.prog 23 #[.agg #[.int .i64 (n : Int), .slice ao m cap], .int .i64 (s : Int)] w fun r w' => ∃ g lv, r = .returned (.tuple #[.slice (some ⟨g, 0, none⟩) n n, .int .i64 0]) ∧ LevOf es m n s lv ∧ IntsAt w' g n lv ∧ w.heap.size ≤ g ∧ Kept w w' := by
  have hfd : ∀ w : World, (Instr.field 50 (.agg #[.int .i64 0, .int .i64 0]) 0).run Try.prog w = .ok (.int .i64 0) w := fun _ => by kernel_rfl
  have KG : Kept w (w.alloc (Obj.cells #[.int .i64 (n : Int), .slice ao m cap] 24)) := (Kept.refl w).alloc _
  have g0 : (w.alloc (Obj.cells #[.int .i64 (n : Int), .slice ao m cap] 24)).cell? ⟨w.heap.size, 0, none⟩ = some (.int .i64 (n : Int)) := by simp [go_sem]
  have g1 : (w.alloc (Obj.cells #[.int .i64 (n : Int), .slice ao m cap] 24)).cell? ⟨w.heap.size, 1, none⟩ = some (.slice ao m cap) := by simp [go_sem]
  have HE := hid_of (h.kept KG)
  have hel : es.length ≤ 4096 := by have := h.len; omega
  have hsi : (s : Int) < (n : Int) := by omega
  clear h
  go_enter Try.func23, Try.ntmps23
  go_wp2_with fail
  generalize hW0 : w.alloc (Obj.cells #[.int .i64 (n : Int), .slice ao m cap] 24) = W0 at KG g0 g1 HE ⊢
  clear hW0
  refine (check_calls (n : Int) ao m cap es W0 HE.out 0 0 hf).mono ?_
  rintro v wa ⟨rfl, K1⟩
  replace g0 := K1.cell g0
  replace g1 := K1.cell g1
  have HE1 := hid_of (HE.out.kept K1)
  have KA := hid_of (KG.trans K1)
  clear K1 KG HE
  go_wp2_with fail
  refine (unset_calls n hn wa).mono ?_
  rintro v wb ⟨rfl, I1, K2⟩
  have HWA : w.heap.size < wa.heap.size := lt_cell g0
  have p0 := g0
  have p1 := g1
  have lgl := I1.lt
  have K3 := K2.alloc (Obj.cells #[.slice (some ⟨wa.heap.size + 1, 0, none⟩) n n] 26)
  have b0 : (wb.alloc (Obj.cells #[.slice (some ⟨wa.heap.size + 1, 0, none⟩) n n] 26)).cell? ⟨wb.heap.size, 0, none⟩ = some (.slice (some ⟨wa.heap.size + 1, 0, none⟩) n n) := by simp [go_sem]
  have hz : (wb.alloc (Obj.cells #[.slice (some ⟨wa.heap.size + 1, 0, none⟩) n n] 26)).heap.size = wb.heap.size + 1 := by simp
  have I2 := I1.kept ((Kept.refl wb).alloc (Obj.cells #[.slice (some ⟨wa.heap.size + 1, 0, none⟩) n n] 26))
  have cs := I2.cell hs
  have fs := World.rowIs.frozen I2 s
  replace g0 := K3.cell g0
  replace g1 := K3.cell g1
  have KB := hid_of K3
  have I2H := hid_of I2
  have ga0 := hid_of g0
  have hwa : w.heap.size < wa.heap.size := HWA
  clear I1 I2 K2 K3
  go_upto_region 7 with fail
  generalize hW2 : wb.alloc (Obj.cells #[.slice (some ⟨wa.heap.size + 1, 0, none⟩) n n] 26) = W2 at b0 hz cs fs g0 g1 KB I2H ga0 ⊢
  clear hW2
  obtain ⟨gl, hgl⟩ : ∃ gl, wa.heap.size + 1 = gl := ⟨_, rfl⟩
  rw [hgl] at b0 cs fs I2H lgl ⊢
  have hga : wa.heap.size ≤ gl := by omega
  have K3 : Kept wa (W2.setCell ⟨gl, s, none⟩ (.int .i64 0)) := KB.out.setCell hga _
  have I3 : Hid (IntsAt (W2.setCell ⟨gl, s, none⟩ (.int .i64 0)) gl n (lv0 s)) := IntsAt.set I2H.out s 0
  have C3 : Ch (fun k => k = gl) W2 (W2.setCell ⟨gl, s, none⟩ (.int .i64 0)) := (Ch.refl (fun k => k = gl) W2).setCell (F := fun k => k = gl) (p := ⟨gl, s, none⟩) rfl _
  have hbx : ¬ wb.heap.size = gl := by omega
  have b3 := C3.cell b0 hbx
  have r0 := K3.cell p0
  have r1 := K3.cell p1
  have hs3 : (W2.setCell ⟨gl, s, none⟩ (.int .i64 0)).heap.size = wb.heap.size + 1 := by simp [World.setCell]; exact hz
  have HE3 := hid_of (HE1.out.kept K3)
  have KC := hid_of (KA.out.trans K3)
  clear HE1 KB I2H ga0 C3 K3 p0 p1 hgl
  go_upto_region 8 with fail
  generalize hW3 : W2.setCell ⟨gl, s, none⟩ (.int .i64 0) = W3 at *
  clear hW3 hz b0 cs fs g0 g1
  go_wp2_with fail
  refine (next_calls n hn ao m cap es W3 HE3.out (by omega) (fun e he => ⟨(hrg.out e he).1, (hrg.out e he).2.1⟩)).mono ?_
  rintro v w4 ⟨q, rfl, N4, K4⟩
  have hs4 : wb.heap.size + 1 ≤ w4.heap.size := by rw [← hs3]; exact K4.size
  have b4 := K4.cell b3
  have I4 := I3.out.kept K4
  have EN := hid_of (lcl_enters w4 gl n wb.heap.size b4 hbx)
  have hLt : ∀ v, v < n → ∀ t ∈ nxt es m v, t.toNat < n := fun v hv t ht => by
    obtain ⟨e, he, -, rfl⟩ := nxt_mem ht
    have := hrg.out e he
    omega
  have Q0 : QOk n ⟨[s], lv0 s⟩ := ⟨by simp, fun u hu => by simp at hu; subst hu; exact hs, fun u hu => by simp at hu; subst hu; simp [lv0]⟩
  have FC := hid_of (floodL_calls (.pointer (some ⟨wb.heap.size, 0, none⟩)) w4 W3.heap.size gl q n hn lval (fun lv => ∀ u, lv u ≤ 2048) (nxt es m) (fun v hv => Nat.le_trans (nxt_len es m v) hel) (fun v hv t ht => by
      obtain ⟨e, he, -, rfl⟩ := nxt_mem ht
      have := hrg.out e he
      omega) (fun lv v hv => by unfold lval; omega) s hs (lv0 s) (hid_of (by simp [lv0])) I4 N4 (by rw [hs3]; omega) EN (fun k j hk hr u => by
      have := itp_le hLt Q0 (fun u => by show lv0 s u ≤ 0; unfold lv0; split <;> omega) k j hr u
      omega))
  have KD := hid_of (KC.out.trans K4)
  have hgw : Hid (w.heap.size ≤ gl) := by show w.heap.size ≤ gl; omega
  clear N4 K4 I4 EN hLt Q0 I3 KC HE3
  go_wp2_with fail
  refine FC.out.mono ?_
  rintro v w5 ⟨rfl, K, hR, hK, I5, C5⟩
  have b5 := C5.cell b4 hbx
  have KE := hid_of (KD.out.ch C5 (fun k hk => by rw [hk]; exact hgw.out))
  have I5H := hid_of I5
  have LV : Hid (LevOf es m n s (it (nxt es m) lval ⟨[s], lv0 s⟩ K).lv) := ⟨K, hR, hK, rfl⟩
  clear FC I5 C5 KD hK hR
  go_wp2_with fail
  go_ret2
  exact ⟨gl, _, rfl, LV.out, I5H.out, hgw.out, KE.out⟩
end Go.Proofs.Ytjheiaegpoppaaa
