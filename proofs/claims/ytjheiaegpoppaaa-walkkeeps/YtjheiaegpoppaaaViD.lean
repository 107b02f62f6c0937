/- The document's visit: the mathematics of its loop; the walk. -/
import Derived.Test.YtjheiaegpoppaaaViC
import Derived.Test.YtjheiaegpoppaaaOrdZ
namespace Go.Proofs.Ytjheiaegpoppaaa
open Go.RowKit

theorem row_bound {L : Nat → List Nat} {n : Nat} (hL : ∀ v, v < n → ∀ t ∈ L v, t < n) : ∀ (f : Nat) (ts : List Nat) (s : Tm), (∀ t ∈ ts, t < n) → (rowF L f s ts).clk + 2 * Un n (rowF L f s ts) ≤ s.clk + 2 * Un n s := by
  intro f
  induction f with
  | zero =>
    intro ts
    induction ts with
    | nil => intro s _; rw [rowF_nil]; exact Nat.le_refl _
    | cons t ts ih =>
      intro s ht
      by_cases h : s.pre t < 0
      · simp [rowF, h]
      · rw [rowF_old _ _ _ _ _ h]; exact ih s (fun x hx => ht x (by simp [hx]))
  | succ f ihf =>
    intro ts
    induction ts with
    | nil => intro s _; rw [rowF_nil]; exact Nat.le_refl _
    | cons t ts ih =>
      intro s ht
      by_cases h : s.pre t < 0
      · rw [rowF_new _ _ _ _ _ h]
        have h1 := ih ((rowF L f (s.ent t) (L t)).lv t) (fun x hx => ht x (by simp [hx]))
        have h2 := ihf (L t) (s.ent t) (hL t (ht t (by simp)))
        have h3 := Un.ent (n := n) (ht t (by simp)) h
        have e1 : ((rowF L f (s.ent t) (L t)).lv t).clk = (rowF L f (s.ent t) (L t)).clk + 1 := rfl
        have e2 : Un n ((rowF L f (s.ent t) (L t)).lv t) = Un n (rowF L f (s.ent t) (L t)) := rfl
        have e3 : (s.ent t).clk = s.clk + 1 := rfl
        omega
      · rw [rowF_old _ _ _ _ _ h]; exact ih s (fun x hx => ht x (by simp [hx]))

theorem vis_bound {L : Nat → List Nat} {n : Nat} (hL : ∀ v, v < n → ∀ t ∈ L v, t < n) {s : Tm} {t : Nat} (ht : t < n) (hp : s.pre t < 0) : ((vis L n (s.ent t) (L t)).lv t).clk + 2 * Un n ((vis L n (s.ent t) (L t)).lv t) ≤ s.clk + 2 * Un n s := by
  have h2 := row_bound hL n (L t) (s.ent t) (hL t ht)
  have h3 := Un.ent (n := n) ht hp
  have e1 : ((vis L n (s.ent t) (L t)).lv t).clk = (rowF L n (s.ent t) (L t)).clk + 1 := rfl
  have e2 : Un n ((vis L n (s.ent t) (L t)).lv t) = Un n (rowF L n (s.ent t) (L t)) := rfl
  have e3 : (s.ent t).clk = s.clk + 1 := rfl
  omega

theorem vis_less {L : Nat → List Nat} {n : Nat} {s : Tm} {t : Nat} (hp : s.pre t < 0) : Un n ((vis L n (s.ent t) (L t)).lv t) ≤ Un n s := Un.mono (fun v hv => by
  show 0 ≤ (rowF L n (s.ent t) (L t)).pre v
  refine row_keeps n (L t) (s.ent t) v ?_
  by_cases e : v = t
  · subst e; omega
  · simp [Tm.ent, e, hv])

/-- Where the edges from number i on lead from a node. -/
def outsFrom (es : List Ed) (i v : Nat) : List Nat := ((es.drop i).filter fun e => e.f == (v : Int)).map fun e => e.t.toNat

theorem outsFrom_zero (es : List Ed) (v : Nat) : outsFrom es 0 v = outs es v := by
  unfold outsFrom outs nxt
  rw [List.drop_zero, List.take_length, List.map_map]
  rfl
theorem outsFrom_all (es : List Ed) (v : Nat) : outsFrom es es.length v = [] := by
  unfold outsFrom
  rw [List.drop_length]
  rfl
theorem edAt_mem' {es : List Ed} {j : Nat} (h : j < es.length) : edAt es j ∈ es := by
  have : edAt es j = es[j] := by simp [edAt, List.getD, h]
  rw [this]; exact List.getElem_mem h
theorem drop_edAt {es : List Ed} {i : Nat} (h : i < es.length) : es.drop i = edAt es i :: es.drop (i + 1) := by
  rw [List.drop_eq_getElem_cons h]
  congr 1
  simp [edAt, List.getD, h]
theorem outsFrom_yes {es : List Ed} {i v : Nat} (h : i < es.length) (hf : (edAt es i).f = (v : Int)) : outsFrom es i v = (edAt es i).t.toNat :: outsFrom es (i + 1) v := by
  unfold outsFrom
  rw [drop_edAt h, List.filter_cons]
  have : ((edAt es i).f == (v : Int)) = true := by rw [hf]; simp
  rw [if_pos this]
  rfl
theorem outsFrom_no {es : List Ed} {i v : Nat} (h : i < es.length) (hf : ¬ (edAt es i).f = (v : Int)) : outsFrom es i v = outsFrom es (i + 1) v := by
  unfold outsFrom
  rw [drop_edAt h, List.filter_cons]
  have : ((edAt es i).f == (v : Int)) = false := by simpa using hf
  rw [if_neg (by rw [this]; simp)]

/-- The two rows of times in memory. -/
structure TAt (w : World) (gp gq n : Nat) (s : Tm) : Prop where
  pre : IntsAt w gp n s.pre
  post : IntsAt w gq n s.post

def two2 (gp gq : Nat) : Nat → Prop := fun k => k = gp ∨ k = gq
def tri2 (gp gq bt : Nat) : Nat → Prop := fun k => k = gp ∨ k = gq ∨ k = bt

/-- The box of the times. -/
structure TBox (w : World) (bt gp gq n : Nat) (c : Int) : Prop where
  c0 : w.cell? ⟨bt, 0, none⟩ = some (.slice (some ⟨gp, 0, none⟩) n n)
  c1 : w.cell? ⟨bt, 1, none⟩ = some (.slice (some ⟨gq, 0, none⟩) n n)
  c2 : w.cell? ⟨bt, 2, none⟩ = some (.int .i64 c)
  z0 : w.frozen? ⟨bt, 0, none⟩ = false
  z1 : w.frozen? ⟨bt, 1, none⟩ = false
  z2 : w.frozen? ⟨bt, 2, none⟩ = false

theorem TBox.ch {F : Nat → Prop} {w w' : World} {bt gp gq n : Nat} {c : Int} (h : TBox w bt gp gq n c) (C : Ch F w w') (hF : ¬ F bt) : TBox w' bt gp gq n c :=
  ⟨C.cell h.c0 hF, C.cell h.c1 hF, C.cell h.c2 hF, (C.frozen (o := 0) (lt_cell h.c0) hF).trans h.z0, (C.frozen (o := 1) (lt_cell h.c0) hF).trans h.z1, (C.frozen (o := 2) (lt_cell h.c0) hF).trans h.z2⟩
theorem TBox.set {w : World} {bt gp gq n : Nat} {c : Int} (h : TBox w bt gp gq n c) (d : Int) : TBox (w.setCell ⟨bt, 2, none⟩ (.int .i64 d)) bt gp gq n d := by
  refine ⟨?_, ?_, World.cell?_setCell_same _ _ _ h.c2, ?_, ?_, ?_⟩
  · simp [go_sem, h.c0]
  · simp [go_sem, h.c1]
  · simpa [go_sem] using h.z0
  · simpa [go_sem] using h.z1
  · simpa [go_sem] using h.z2
/-- The box of the answer. -/
structure RBox (w : World) (br : Nat) : Prop where
  c0 : w.cell? ⟨br, 0, none⟩ = some (.slice none 0 0)
  c1 : w.cell? ⟨br, 1, none⟩ = some (.slice none 0 0)
  c2 : w.cell? ⟨br, 2, none⟩ = some (.int .i64 0)
  z0 : w.frozen? ⟨br, 0, none⟩ = false
  z1 : w.frozen? ⟨br, 1, none⟩ = false
  z2 : w.frozen? ⟨br, 2, none⟩ = false
theorem RBox.ch {F : Nat → Prop} {w w' : World} {bt : Nat} (h : RBox w bt) (C : Ch F w w') (hF : ¬ F bt) : RBox w' bt :=
  ⟨C.cell h.c0 hF, C.cell h.c1 hF, C.cell h.c2 hF, (C.frozen (o := 0) (lt_cell h.c0) hF).trans h.z0, (C.frozen (o := 1) (lt_cell h.c0) hF).trans h.z1, (C.frozen (o := 2) (lt_cell h.c0) hF).trans h.z2⟩

theorem TBox.put {w : World} {bt gp gq n : Nat} {c : Int} (h : TBox w bt gp gq n c) (d : Int) : TBox (((w.setCell ⟨bt, 0, none⟩ (.slice (some ⟨gp, 0, none⟩) n n)).setCell ⟨bt, 1, none⟩ (.slice (some ⟨gq, 0, none⟩) n n)).setCell ⟨bt, 2, none⟩ (.int .i64 d)) bt gp gq n d := by
  have h0 := h.c0
  have h1 := h.c1
  have h2 := h.c2
  refine ⟨?_, ?_, ?_, ?_, ?_, ?_⟩
  · simp [go_sem, h0]
  · simp [go_sem, h1]
  · simp [go_sem, h2]
  · simpa [go_sem] using h.z0
  · simpa [go_sem] using h.z1
  · simpa [go_sem] using h.z2
theorem TAt.ch {F : Nat → Prop} {w w' : World} {gp gq n : Nat} {s : Tm} (h : TAt w gp gq n s) (C : Ch F w w') (h1 : ¬ F gp) (h2 : ¬ F gq) : TAt w' gp gq n s := ⟨h.pre.ch C h1, h.post.ch C h2⟩

set_option maxRecDepth 100000 in
set_option maxHeartbeats 8000000 in
theorem visitR_calls (n : Nat) (hn : n ≤ 1024) (ao : Option Addr) (m cap : Nat) (es : List Ed) (W0 : World) (h : Hid (ERow W0 ao m cap es)) (hrg : Hid (∀ e ∈ es, 0 ≤ e.f ∧ e.f < (n : Int) ∧ 0 ≤ e.t ∧ e.t < (n : Int))) (gp gq : Nat) (hgp : W0.heap.size ≤ gp) (hgq : W0.heap.size ≤ gq) (hne : gp ≠ gq) :
    ∀ (f : Nat) (w : World) (s : Tm) (v : Nat), Un n s ≤ f → s.pre v < 0 → v < n → s.clk + 2 * Un n s ≤ 2 * n → Ch (two2 gp gq) W0 w → TAt w gp gq n s →
    Calls Try.prog 32 #[.agg #[.int .i64 (n : Int), .slice ao m cap], .agg #[.slice (some ⟨gp, 0, none⟩) n n, .slice (some ⟨gq, 0, none⟩) n n, .int .i64 (s.clk : Int)], .int .i64 (v : Int)] w
      fun r w' => r = .returned (.agg #[.slice (some ⟨gp, 0, none⟩) n n, .slice (some ⟨gq, 0, none⟩) n n, .int .i64 (((vis (outs es) n (s.ent v) (outs es v)).lv v).clk : Int)]) ∧ TAt w' gp gq n ((vis (outs es) n (s.ent v) (outs es v)).lv v) ∧ Ch (two2 gp gq) w w' := by
  intro f
  induction f with
  | zero =>
    intro w s v hu hp hv
    have := Un.ent (n := n) hv hp
    omega
  | succ f ih =>
    intro w s v hu hp hv hb hC hT
    have IH := hid_of ih
    have hL := hid_of (outs_lt hrg.out)
    have hu1 := Un.ent (n := n) hv hp
    have hvi : (v : Int) < (n : Int) := by omega
    clear ih
    -- the boxes
    obtain ⟨c, hc⟩ : ∃ c, s.clk = c := ⟨_, rfl⟩
    rw [hc]
    obtain ⟨T, hT'⟩ : ∃ T, vis (outs es) n (s.ent v) (outs es v) = T := ⟨_, rfl⟩
    rw [hT']
    have KG : Kept w (((w.alloc (Obj.cells #[.int .i64 (n : Int), .slice ao m cap] 24)).alloc (Obj.cells #[.slice (some ⟨gp, 0, none⟩) n n, .slice (some ⟨gq, 0, none⟩) n n, .int .i64 (c : Int)] 59)).alloc (Obj.cells #[.slice none 0 0, .slice none 0 0, .int .i64 0] 59)) := (((Kept.refl w).alloc _).alloc _).alloc _
    have g0 : (((w.alloc (Obj.cells #[.int .i64 (n : Int), .slice ao m cap] 24)).alloc (Obj.cells #[.slice (some ⟨gp, 0, none⟩) n n, .slice (some ⟨gq, 0, none⟩) n n, .int .i64 (c : Int)] 59)).alloc (Obj.cells #[.slice none 0 0, .slice none 0 0, .int .i64 0] 59)).cell? ⟨w.heap.size, 0, none⟩ = some (.int .i64 (n : Int)) := by simp [go_sem]
    have g1 : (((w.alloc (Obj.cells #[.int .i64 (n : Int), .slice ao m cap] 24)).alloc (Obj.cells #[.slice (some ⟨gp, 0, none⟩) n n, .slice (some ⟨gq, 0, none⟩) n n, .int .i64 (c : Int)] 59)).alloc (Obj.cells #[.slice none 0 0, .slice none 0 0, .int .i64 0] 59)).cell? ⟨w.heap.size, 1, none⟩ = some (.slice ao m cap) := by simp [go_sem]
    have TB : TBox (((w.alloc (Obj.cells #[.int .i64 (n : Int), .slice ao m cap] 24)).alloc (Obj.cells #[.slice (some ⟨gp, 0, none⟩) n n, .slice (some ⟨gq, 0, none⟩) n n, .int .i64 (c : Int)] 59)).alloc (Obj.cells #[.slice none 0 0, .slice none 0 0, .int .i64 0] 59)) (w.heap.size + 1) gp gq n (c : Int) := by constructor <;> simp [go_sem]
    have RB : RBox (((w.alloc (Obj.cells #[.int .i64 (n : Int), .slice ao m cap] 24)).alloc (Obj.cells #[.slice (some ⟨gp, 0, none⟩) n n, .slice (some ⟨gq, 0, none⟩) n n, .int .i64 (c : Int)] 59)).alloc (Obj.cells #[.slice none 0 0, .slice none 0 0, .int .i64 0] 59)) (w.heap.size + 1 + 1) := by constructor <;> simp [go_sem]
    have RBH := hid_of RB
    clear RB
    have hW1s : Hid (w.heap.size + 3 ≤ (((w.alloc (Obj.cells #[.int .i64 (n : Int), .slice ao m cap] 24)).alloc (Obj.cells #[.slice (some ⟨gp, 0, none⟩) n n, .slice (some ⟨gq, 0, none⟩) n n, .int .i64 (c : Int)] 59)).alloc (Obj.cells #[.slice none 0 0, .slice none 0 0, .int .i64 0] 59)).heap.size) := by show _ ≤ _; simp
    go_enter Try.func32, Try.ntmps32
    go_upto_region 1 with fail
    generalize hW1 : ((w.alloc (Obj.cells #[.int .i64 (n : Int), .slice ao m cap] 24)).alloc (Obj.cells #[.slice (some ⟨gp, 0, none⟩) n n, .slice (some ⟨gq, 0, none⟩) n n, .int .i64 (c : Int)] 59)).alloc (Obj.cells #[.slice none 0 0, .slice none 0 0, .int .i64 0] 59) = W1 at *
    clear hW1
    have lgp : gp < w.heap.size := hT.pre.lt
    have lgq : gq < w.heap.size := hT.post.lt
    have T1 : TAt W1 gp gq n s := hT.ch (Ch.of_kept (F := fun _ => False) KG) (fun t => t) (fun t => t)
    obtain ⟨bt, hbt⟩ : ∃ bt, w.heap.size + 1 = bt := ⟨_, rfl⟩
    obtain ⟨bg, hbg⟩ : ∃ bg, w.heap.size = bg := ⟨_, rfl⟩
    rw [hbt] at TB RBH
    rw [hbg] at g0 g1
    rw [hbt, hbg]
    obtain ⟨br, hbr⟩ : ∃ br, bt + 1 = br := ⟨_, rfl⟩
    rw [hbr] at RBH ⊢
    have ntp : ¬ gp = bt := by omega
    have ntq : ¬ gq = bt := by omega
    have C2 : Ch (fun k => k = gp) W1 (W1.setCell ⟨gp, v, none⟩ (.int .i64 (c : Int))) := (Ch.refl (fun k => k = gp) W1).setCell (F := fun k => k = gp) (p := ⟨gp, v, none⟩) rfl _
    have TB2 := TB.ch C2 (fun t => ntp t.symm)
    have TB3 := TB2.set ((c : Int) + 1)
    have C3 : Ch (fun k => k = bt) (W1.setCell ⟨gp, v, none⟩ (.int .i64 (c : Int))) ((W1.setCell ⟨gp, v, none⟩ (.int .i64 (c : Int))).setCell ⟨bt, 2, none⟩ (.int .i64 ((c : Int) + 1))) := (Ch.refl (fun k => k = bt) _).setCell (F := fun k => k = bt) (p := ⟨bt, 2, none⟩) rfl _
    have T3 : TAt ((W1.setCell ⟨gp, v, none⟩ (.int .i64 (c : Int))).setCell ⟨bt, 2, none⟩ (.int .i64 ((c : Int) + 1))) gp gq n (s.ent v) := by
      refine ⟨World.rowIs.congr ((T1.pre.set v (c : Int)).ch C3 ntp) (fun j _ => ?_), (T1.post.ch C2 (fun t => hne t.symm)).ch C3 ntq⟩
      simp only [Tm.ent, hc]
    have C13 : Ch (tri2 gp gq bt) W1 ((W1.setCell ⟨gp, v, none⟩ (.int .i64 (c : Int))).setCell ⟨bt, 2, none⟩ (.int .i64 ((c : Int) + 1))) := (C2.mono (G := tri2 gp gq bt) (fun k t => .inl t)).trans (C3.mono (fun k t => .inr (.inr t)))
    have cv := T1.pre.cell hv
    have fv := World.rowIs.frozen T1.pre v
    have t0 := TB.c0
    have t2 := TB.c2
    have u2 := TB2.c2
    have uz := TB2.z2
    have hwr : IntKind.i64.wrap ((c : Int) + 1) = (c : Int) + 1 := by rw [IntKind.wrap_i64]; first | omega | (unfold wrap64; omega)
    have T3H := hid_of T3
    have TB3H := hid_of TB3
    have C13H := hid_of C13
    clear T3 TB3 C13 T1 TB TB2 C2 C3
    go_upto_region 3 with fail
    generalize hW3 : (W1.setCell ⟨gp, v, none⟩ (.int .i64 (c : Int))).setCell ⟨bt, 2, none⟩ (.int .i64 ((c : Int) + 1)) = W3 at *
    clear hW3
    have nbg : ¬ tri2 gp gq bt bg := fun t => by rcases t with t | t | t <;> omega
    have nbr : ¬ tri2 gp gq bt br := fun t => by rcases t with t | t | t <;> omega
    have CE : Hid (∀ wr, Ch (tri2 gp gq bt) W1 wr → Kept W0 wr) := fun wr C => (((Kept.refl W0).ch hC (fun k t => by rcases t with t | t <;> omega)).trans KG).ch C (fun k t => by
      have := hC.size
      rcases t with t | t | t <;> omega)
    have CW0 : Hid (∀ wr, Ch (tri2 gp gq bt) W1 wr → Ch (two2 gp gq) W0 wr) := fun wr C => (hC.trans' (Ch.of_kept (F := fun _ => False) KG) (fun i t => t.elim)).trans' C (fun i t => by
      have := hC.size
      rcases t with t | t | t
      · exact .inl (.inl t)
      · exact .inl (.inr t)
      · exact .inr (by omega))
    have CWW : Hid (∀ wr, Ch (tri2 gp gq bt) W1 wr → Ch (two2 gp gq) w wr) := fun wr C => (Ch.of_kept KG).trans' C (fun i t => by
      rcases t with t | t | t
      · exact .inl (.inl t)
      · exact .inl (.inr t)
      · exact .inr (by omega))
    have HL := hid_of h.out.len
    have hr := h.out.room
    have hmx := h.out.most
    unfold maxLen at hmx
    have hb1 : Hid ((s.ent v).clk + 2 * Un n (s.ent v) + 1 ≤ 2 * n) := by
      have e3 : (s.ent v).clk = s.clk + 1 := rfl
      show _ ≤ _
      omega
    have HC0 : Hid (((s.ent v).clk : Int) = (c : Int) + 1) := by show _ = _; simp [Tm.ent, hc]
    have hu2 : Un n (s.ent v) ≤ f := by omega
    have HTT := hid_of hT'
    clear hC hT KG hT' cv fv t0 t2 u2 uz
    obtain ⟨s1, hs1⟩ : ∃ s1, s.ent v = s1 := ⟨_, rfl⟩
    rw [hs1] at T3H HTT hb1 HC0 hu2
    clear hs1 hc hb hu hu1 hp s
    go_wp2_with fail
    go_loopw [7] (fun i wr => ∃ (k : Nat) (s : Tm), k ≤ m ∧ i = .int .i64 (k : Int) ∧ TAt wr gp gq n s ∧ TBox wr bt gp gq n (s.clk : Int) ∧ vis (outs es) n s (outsFrom es k v) = T ∧ Un n s ≤ f ∧ s.clk + 2 * Un n s + 1 ≤ 2 * n ∧ Ch (tri2 gp gq bt) W1 wr) (fun i _ => m - (intOf i).toNat)
    case atStart => exact ⟨0, s1, by omega, rfl, T3H.out, by rw [HC0.out]; exact TB3H.out, by rw [outsFrom_zero]; exact HTT.out, hu2, hb1.out, C13H.out⟩
    case round =>
      obtain ⟨k, s, hk, rfl, TA, TBX, hvis, hus, hbs, C⟩ := hrel
      clear T3H TB3H C13H HTT hb1 HC0 hu2
      have x0 := C.cell g0 nbg
      have x1 := C.cell g1 nbg
      by_cases hgo : (k : Int) < (m : Int)
      · have KE := CE.out wr C
        obtain ⟨b, off, rfl, hcc⟩ := (h.out.kept KE).cell (by omega)
        have hbw : b < W0.heap.size := by
          obtain ⟨b', off', e', hcc'⟩ := h.out.cell (by omega)
          obtain ⟨rfl, rfl⟩ : b = b' ∧ off = off' := by simpa using e'
          exact lt_cell (hcc' 0 (by omega)).1
        obtain ⟨d1, d2, d3, d4⟩ := hcc k (by omega)
        have hkl : k < es.length := by have := HL.out; omega
        have RG := hrg.out _ (edAt_mem' hkl)
        obtain ⟨x, hx⟩ : ∃ x : Nat, (edAt es k).t = (x : Int) := ⟨(edAt es k).t.toNat, by omega⟩
        have hxn : x < n := by rw [hx] at RG; omega
        have hxi : (x : Int) < (n : Int) := by omega
        rw [hx] at d2
        have b0 := TBX.c0
        have px := TA.pre.cell hxn
        by_cases hfv : (edAt es k).f = (v : Int)
        · have OY := outsFrom_yes hkl hfv
          rw [hx, Int.toNat_natCast] at OY
          rw [hfv] at d1
          rw [OY] at hvis
          have qv : ((v : Int) == (v : Int)) = true := by simp
          by_cases hp : s.pre x < 0
          · rw [vis_new hL.out hxn hp] at hvis
            have hl1 := vis_less (L := outs es) (n := n) hp
            have hl2 := vis_bound hL.out hxn hp
            obtain ⟨s', hs'⟩ : ∃ s', (vis (outs es) n (s.ent x) (outs es x)).lv x = s' := ⟨_, rfl⟩
            have IHx := IH.out
            have HV := hid_of hvis
            have TAH := hid_of TA
            have TBH := hid_of TBX
            have CH := hid_of C
            have HP := hid_of hp
            have KEH := hid_of KE
            generalize hpx : s.pre x = px' at px hp
            clear hcc RG OY hvis TA TBX C d3 d4 hx hfv hpx
            go_wp2_with fail
            go_quiet (fail)
            have KD : Kept wr (wr.drewN nq) := (Kept.refl wr).drewN nq
            have TA9 := TAH.out.ch (Ch.of_kept (F := fun _ => False) KD) (fun t => t) (fun t => t)
            have TB9 := TBH.out.ch (Ch.of_kept (F := fun _ => False) KD) (fun t => t)
            have C9 := hid_of (CH.out.trans (Ch.of_kept KD))
            have y0 := KD.cell x0
            have y1 := KD.cell x1
            have y2 := KD.cell d2
            generalize wr.drewN nq = W9 at TA9 TB9 C9 y0 y1 y2 ⊢
            clear KD px b0 d1 d2 x0 x1
            have KD1 : Kept W9 (W9.drewN 1) := (Kept.refl W9).drewN 1
            have IHC := hid_of (IHx (W9.drewN 1) s x hus HP.out hxn (by omega) (CW0.out _ (C9.out.trans (Ch.of_kept KD1))) (TA9.ch (Ch.of_kept (F := fun _ => False) KD1) (fun t => t) (fun t => t)))
            rw [hs'] at IHC HV hl1 hl2
            have b0 := TB9.c0
            have b1 := TB9.c1
            have b2 := TB9.c2
            have TB9H := hid_of TB9
            have n2g : ¬ two2 gp gq bg := fun t => nbg (by rcases t with t | t; exact .inl t; exact .inr (.inl t))
            have n2t : ¬ two2 gp gq bt := fun t => by rcases t with t | t; exact ntp t.symm; exact ntq t.symm
            have n2b : ¬ two2 gp gq b := fun t => by rcases t with t | t <;> omega
            go_wp2_with fail
            refine Ord.regionZ 9 [(0, 1), (1, 1), (2, 0), (3, 1), (4, 0), (5, 0), (6, 0), (7, 1), (8, 2), (9, 3)] (fun w' => Ch (two2 gp gq) W9 w') (by kernel_rfl) (by kernel_rfl) (by kernel_rfl) (by kernel_rfl) (fun _ _ d _ _ h => by cases d <;> exact h) ((Ch.refl _ W9).drewN _) ?_
            repeat
              refine Ord.stepZ rfl (fun Ko hK => ?_)
              simp only [Ord.bodyZ, Ord.body]
              go_simp
              first
                | (refine hK _ _ ?_; clear hK Ko)
                | (refine ⟨_, fun w' hS => (by have c0 := hS.cell y0 n2g; have c1 := hS.cell y1 n2g; simp only [c0, c1, Result.andThen]; rfl), hK _ _ ?_⟩; clear hK Ko)
                | (refine ⟨_, fun w' hS => (by have c0 := hS.cell b0 n2t; have c1 := hS.cell b1 n2t; have c2 := hS.cell b2 n2t; simp only [c0, c1, c2, Result.andThen]; rfl), hK _ _ ?_⟩; clear hK Ko)
                | (refine ⟨_, fun w' hS => (by have c1 := hS.cell y2 n2b; simp only [c1, Result.andThen]; rfl), hK _ _ ?_⟩; clear hK Ko)
                | (go_at_call 32; refine IHC.out.mono ?_; rintro r w2 ⟨rfl, TA2, C2⟩; have C2' := ((Ch.refl (two2 gp gq) W9).drewN 1).trans C2; have TB2 := TB9H.out.ch C2' n2t; have e0 := TB2.c0; have e1 := TB2.c1; have e2 := TB2.c2; have f0 := TB2.z0; have f1 := TB2.z1; have f2 := TB2.z2; refine ⟨C2', hK _ _ ?_⟩; clear hK Ko)
            refine Ord.doneZ ?_
            have TB5 := hid_of (TB2.put (s'.clk : Int))
            have C5 : Ch (fun k => k = bt) w2 (((w2.setCell ⟨bt, 0, none⟩ (.slice (some ⟨gp, 0, none⟩) n n)).setCell ⟨bt, 1, none⟩ (.slice (some ⟨gq, 0, none⟩) n n)).setCell ⟨bt, 2, none⟩ (.int .i64 (s'.clk : Int))) :=
              (((Ch.refl (fun k => k = bt) w2).setCell (F := fun k => k = bt) (p := ⟨bt, 0, none⟩) rfl _).setCell (F := fun k => k = bt) (p := ⟨bt, 1, none⟩) rfl _).setCell (F := fun k => k = bt) (p := ⟨bt, 2, none⟩) rfl _
            have TA5 := hid_of (TA2.ch C5 ntp ntq)
            have CN := hid_of ((C9.out.trans (C2'.mono (fun k t => by rcases t with t | t; exact .inl t; exact .inr (.inl t)))).trans (C5.mono (fun k t => .inr (.inr t))))
            generalize hW5 : ((w2.setCell ⟨bt, 0, none⟩ (.slice (some ⟨gp, 0, none⟩) n n)).setCell ⟨bt, 1, none⟩ (.slice (some ⟨gq, 0, none⟩) n n)).setCell ⟨bt, 2, none⟩ (.int .i64 (s'.clk : Int)) = W5 at TB5 TA5 CN ⊢
            clear hW5 C5 TA2 TB2 C2 C2' e0 e1 e2 f0 f1 f2 IHC
            go_wp2_with fail
            go_roundw
            case rel => exact ⟨k + 1, s', by omega, by go_num, TA5.out, TB5.out, HV.out, by omega, by omega, CN.out⟩
            case measure => simp [intOf]; omega
          · rw [vis_old hp] at hvis
            have HV := hid_of hvis
            have TAH := hid_of TA
            have TBH := hid_of TBX
            have CH := hid_of C
            generalize s.pre x = px' at px hp
            clear hcc RG OY hvis TA TBX C KE d3 d4 hx hfv
            go_wp2_with fail
            go_quiet (fail)
            have KD : Kept wr (wr.drewN nq) := (Kept.refl wr).drewN nq
            have TA9 := hid_of (TAH.out.ch (Ch.of_kept (F := fun _ => False) KD) (fun t => t) (fun t => t))
            have TB9 := hid_of (TBH.out.ch (Ch.of_kept (F := fun _ => False) KD) (fun t => t))
            have C9 := hid_of (CH.out.trans (Ch.of_kept KD))
            generalize wr.drewN nq = W9 at TA9 TB9 C9 ⊢
            clear KD
            go_wp2_with fail
            go_roundw
            case rel => exact ⟨k + 1, s, by omega, by go_num, TA9.out, TB9.out, HV.out, hus, hbs, C9.out⟩
            case measure => simp [intOf]; omega
        · have ON := outsFrom_no hkl hfv
          rw [ON] at hvis
          have HV := hid_of hvis
          have TAH := hid_of TA
          have TBH := hid_of TBX
          have CH := hid_of C
          obtain ⟨fz, hfz⟩ : ∃ fz, (edAt es k).f = fz := ⟨_, rfl⟩
          rw [hfz] at d1 hfv
          have qv : (fz == (v : Int)) = false := by simpa using hfv
          clear hcc RG ON hvis TA TBX C KE d3 d4 hx hfz px
          go_wp2_with fail
          go_quiet (fail)
          have KD : Kept wr (wr.drewN nq) := (Kept.refl wr).drewN nq
          have TA9 := hid_of (TAH.out.ch (Ch.of_kept (F := fun _ => False) KD) (fun t => t) (fun t => t))
          have TB9 := hid_of (TBH.out.ch (Ch.of_kept (F := fun _ => False) KD) (fun t => t))
          have C9 := hid_of (CH.out.trans (Ch.of_kept KD))
          generalize wr.drewN nq = W9 at TA9 TB9 C9 ⊢
          clear KD
          go_wp2_with fail
          go_roundw
          case rel => exact ⟨k + 1, s, by omega, by go_num, TA9.out, TB9.out, HV.out, hus, hbs, C9.out⟩
          case measure => simp [intOf]; omega
      · obtain rfl : k = m := by omega
        rw [HL.out, outsFrom_all, vis_nil] at hvis
        subst hvis
        have cv := TA.post.cell hv
        have fv := World.rowIs.frozen TA.post v
        have b1 := TBX.c1
        have b2 := TBX.c2
        obtain ⟨d, hd⟩ : ∃ d, s.clk = d := ⟨_, rfl⟩
        rw [hd] at b2 hbs TBX
        have hwr2 : IntKind.i64.wrap ((d : Int) + 1) = (d : Int) + 1 := by rw [IntKind.wrap_i64]; first | omega | (unfold wrap64; omega)
        have C2 : Ch (fun k => k = gq) wr (wr.setCell ⟨gq, v, none⟩ (.int .i64 (d : Int))) := (Ch.refl (fun k => k = gq) wr).setCell (F := fun k => k = gq) (p := ⟨gq, v, none⟩) rfl _
        have TB2 := TBX.ch C2 (fun t => ntq t.symm)
        have u2 := TB2.c2
        have uz := TB2.z2
        have TB3 := TB2.set ((d : Int) + 1)
        have C3 : Ch (fun k => k = bt) (wr.setCell ⟨gq, v, none⟩ (.int .i64 (d : Int))) ((wr.setCell ⟨gq, v, none⟩ (.int .i64 (d : Int))).setCell ⟨bt, 2, none⟩ (.int .i64 ((d : Int) + 1))) := (Ch.refl (fun k => k = bt) _).setCell (F := fun k => k = bt) (p := ⟨bt, 2, none⟩) rfl _
        have T3 : TAt ((wr.setCell ⟨gq, v, none⟩ (.int .i64 (d : Int))).setCell ⟨bt, 2, none⟩ (.int .i64 ((d : Int) + 1))) gp gq n (s.lv v) := by
          refine ⟨(TA.pre.ch C2 hne).ch C3 ntp, World.rowIs.congr ((TA.post.set v (d : Int)).ch C3 ntq) (fun j _ => ?_)⟩
          simp only [Tm.lv, hd]
        have C13 : Ch (tri2 gp gq bt) W1 ((wr.setCell ⟨gq, v, none⟩ (.int .i64 (d : Int))).setCell ⟨bt, 2, none⟩ (.int .i64 ((d : Int) + 1))) := (C.trans (C2.mono (fun k t => .inr (.inl t)))).trans (C3.mono (fun k t => .inr (.inr t)))
        have HCK : Hid (((s.lv v).clk : Int) = (d : Int) + 1) := by show _ = _; simp [Tm.lv, hd]
        have T3H := hid_of T3
        have TB3H := hid_of TB3
        have C13H := hid_of C13
        clear T3 TB3 C13 TA TBX TB2 C2 C3 C
        go_upto_region 10 with fail
        generalize hW3 : (wr.setCell ⟨gq, v, none⟩ (.int .i64 (d : Int))).setCell ⟨bt, 2, none⟩ (.int .i64 ((d : Int) + 1)) = W4 at *
        clear hW3 cv fv b1 b2 u2 uz
        have e0 := TB3H.out.c0
        have e1 := TB3H.out.c1
        have e2 := TB3H.out.c2
        have RB := RBH.out.ch C13H.out nbr
        have r0 := RB.c0
        have r1 := RB.c1
        have r2 := RB.c2
        have rz0 := RB.z0
        have rz1 := RB.z1
        have rz2 := RB.z2
        have C5 : Ch (fun k => k = br) W4 (((W4.setCell ⟨br, 0, none⟩ (.slice (some ⟨gp, 0, none⟩) n n)).setCell ⟨br, 1, none⟩ (.slice (some ⟨gq, 0, none⟩) n n)).setCell ⟨br, 2, none⟩ (.int .i64 ((d : Int) + 1))) :=
          (((Ch.refl (fun k => k = br) W4).setCell (F := fun k => k = br) (p := ⟨br, 0, none⟩) rfl _).setCell (F := fun k => k = br) (p := ⟨br, 1, none⟩) rfl _).setCell (F := fun k => k = br) (p := ⟨br, 2, none⟩) rfl _
        have q0 : (((W4.setCell ⟨br, 0, none⟩ (.slice (some ⟨gp, 0, none⟩) n n)).setCell ⟨br, 1, none⟩ (.slice (some ⟨gq, 0, none⟩) n n)).setCell ⟨br, 2, none⟩ (.int .i64 ((d : Int) + 1))).cell? ⟨br, 0, none⟩ = some (.slice (some ⟨gp, 0, none⟩) n n) := by simp [go_sem, r0]
        have q1 : (((W4.setCell ⟨br, 0, none⟩ (.slice (some ⟨gp, 0, none⟩) n n)).setCell ⟨br, 1, none⟩ (.slice (some ⟨gq, 0, none⟩) n n)).setCell ⟨br, 2, none⟩ (.int .i64 ((d : Int) + 1))).cell? ⟨br, 1, none⟩ = some (.slice (some ⟨gq, 0, none⟩) n n) := by simp [go_sem, r1]
        have q2 : (((W4.setCell ⟨br, 0, none⟩ (.slice (some ⟨gp, 0, none⟩) n n)).setCell ⟨br, 1, none⟩ (.slice (some ⟨gq, 0, none⟩) n n)).setCell ⟨br, 2, none⟩ (.int .i64 ((d : Int) + 1))).cell? ⟨br, 2, none⟩ = some (.int .i64 ((d : Int) + 1)) := by simp [go_sem, r2]
        have FT := hid_of (T3H.out.ch C5 (by omega) (by omega))
        have FC := hid_of ((CWW.out W4 C13H.out).trans' C5 (fun i t => .inr (by omega)))
        clear C5 RB
        go_wp2_with fail
        exact bodyPost_ret (v := .agg #[.slice (some ⟨gp, 0, none⟩) n n, .slice (some ⟨gq, 0, none⟩) n n, .int .i64 ((d : Int) + 1)]) (by simp [results, Try.results32, go_sem, q0, q1, q2]) rfl ⟨by rw [HCK.out], FT.out, FC.out⟩
end Go.Proofs.Ytjheiaegpoppaaa
