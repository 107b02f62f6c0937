/- The document's Strong: levels are reach; the walk. -/
import Derived.Test.YtjheiaegpoppaaaPaH
import Derived.Test.YtjheiaegpoppaaaWkL
namespace Go.Proofs.Ytjheiaegpoppaaa
open Go.RowKit

/-- There is a way from each to each. -/
def Mut (es : List Ed) (u v : Nat) : Prop := Way (outs es) u v ∧ Way (outs es) v u

/-- The flood ends. -/
theorem lev_ex {es : List Ed} {n s : Nat} (hrg : ∀ e ∈ es, 0 ≤ e.f ∧ e.f < (n : Int) ∧ 0 ≤ e.t ∧ e.t < (n : Int)) (hs : s < n) : ∃ lv, LevOf es es.length n s lv := by
  obtain ⟨S, hS⟩ : ∃ S : Fl, S = ⟨[s], lv0 s⟩ := ⟨_, rfl⟩
  have hL : ∀ v, v < n → ∀ t ∈ nxt es es.length v, t.toNat < n := fun v _ t ht => by
    obtain ⟨e, he, -, rfl⟩ := nxt_mem ht
    have := hrg e he
    omega
  have hval : ∀ (lv : Nat → Int) v, 0 ≤ lv v → 0 ≤ lval lv v := fun lv v h => by unfold lval; omega
  have Q0 : QOk n S := by
    rw [hS]
    exact ⟨by simp, fun u hu => by simp at hu; omega, fun u hu => by simp at hu; subst hu; show 0 ≤ lv0 u u; unfold lv0; rw [if_pos rfl]; omega⟩
  have main : ∀ b, (∃ K, K ≤ b ∧ (∀ j, j < K → j < (it (nxt es es.length) lval S j).q.length) ∧ ¬ K < (it (nxt es es.length) lval S K).q.length) ∨ ∀ j, j ≤ b → j < (it (nxt es es.length) lval S j).q.length := by
    intro b
    induction b with
    | zero =>
      by_cases h : 0 < (it (nxt es es.length) lval S 0).q.length
      · exact .inr (fun j hj => by obtain rfl : j = 0 := by omega
                                   exact h)
      · exact .inl ⟨0, Nat.le_refl _, fun j hj => absurd hj (Nat.not_lt_zero _), h⟩
    | succ b ih =>
      rcases ih with ⟨K, h1, h2, h3⟩ | ih
      · exact .inl ⟨K, by omega, h2, h3⟩
      · by_cases h : b + 1 < (it (nxt es es.length) lval S (b + 1)).q.length
        · refine .inr (fun j hj => ?_)
          by_cases e : j = b + 1
          · rw [e]; exact h
          · exact ih j (by omega)
        · exact .inl ⟨b + 1, Nat.le_refl _, fun j hj => ih j (by omega), h⟩
  obtain ⟨K, -, h2, h3⟩ : ∃ K, K ≤ n ∧ (∀ j, j < K → j < (it (nxt es es.length) lval S j).q.length) ∧ ¬ K < (it (nxt es es.length) lval S K).q.length := by
    rcases main n with h | h
    · exact h
    · have := (QOk.it hval hL Q0 n (fun j hj => h j (by omega))).len
      have := h n (Nat.le_refl _)
      omega
  refine ⟨(it (nxt es es.length) lval S K).lv, K, ?_⟩
  rw [← hS]
  refine ⟨h2, ?_, rfl⟩
  cases K with
  | zero => omega
  | succ k =>
    have h4 := h2 k (by omega)
    obtain ⟨r, hr⟩ := fold_grow lval ((it (nxt es es.length) lval S k).q.getD k 0) (nxt es es.length ((it (nxt es es.length) lval S k).q.getD k 0)) (it (nxt es es.length) lval S k)
    have e : (it (nxt es es.length) lval S (k + 1)).q = (it (nxt es es.length) lval S k).q ++ r := hr
    rw [e, List.length_append] at h3 ⊢
    omega

theorem Levs.reach {es : List Ed} {n s : Nat} {lv : Nat → Int} (h : Levs es n s lv) (hrg : ∀ e ∈ es, 0 ≤ e.f ∧ e.f < (n : Int) ∧ 0 ≤ e.t ∧ e.t < (n : Int)) (v : Nat) : 0 ≤ lv v ↔ Way (outs es) s v := by
  constructor
  · have main : ∀ d v, lv v = (d : Nat) → Way (outs es) s v := by
      intro d
      induction d with
      | zero => intro v hv; rw [h.zero v hv]; exact Way.refl s
      | succ d ih =>
        intro v hv
        obtain ⟨e, he, h1, h2, h3⟩ := h.pred v (by omega)
        have r := hrg e he
        have w := ih e.f.toNat (by omega)
        exact w.step (mem_outs' he (by omega) h1)
    intro hv
    exact main (lv v).toNat v (by omega)
  · intro w
    induction w with
    | refl => rw [h.s0]; omega
    | step _ hx ih =>
      obtain ⟨e, he, h1, h2⟩ := outs_mem hx
      have := h.edge e he (by rw [h1, Int.toNat_natCast]; exact ih)
      rw [h2] at this
      exact this.1

/-- All levels at once. -/
theorem levs_all {es : List Ed} {n : Nat} (hrg : ∀ e ∈ es, 0 ≤ e.f ∧ e.f < (n : Int) ∧ 0 ≤ e.t ∧ e.t < (n : Int)) : ∃ lvs : Nat → Nat → Int, ∀ s, s < n → Levs es n s (lvs s) := by
  have : ∀ s, ∃ lv, s < n → Levs es n s lv := fun s => by
    by_cases hs : s < n
    · obtain ⟨lv, h⟩ := lev_ex hrg hs
      exact ⟨lv, fun _ => h.levs rfl hs hrg⟩
    · exact ⟨fun _ => 0, fun t => absurd t hs⟩
  exact ⟨fun s => (this s).choose, fun s hs => (this s).choose_spec hs⟩

/-- The least of v and the nodes from p on that are mutual with v. -/
structure LAt (n : Nat) (R : Nat → Nat → Prop) (v p c : Nat) : Prop where
  le : c ≤ v
  rel : R c v
  least : ∀ u, p ≤ u → u < n → R u v → c ≤ u

set_option maxRecDepth 100000 in
set_option maxHeartbeats 4000000 in
theorem strongRBad_calls (nodes : Int) (ao : Option Addr) (m cap : Nat) (es : List Ed) (w : World) (h : ERow w ao m cap es) (c a : Int) (hf : Hid (faultOf nodes es = (c, a))) (hb : c ≠ 0) :
    Calls Try.prog 21 #[.agg #[.int .i64 nodes, .slice ao m cap]] w fun r w' => r = .returned (.tuple #[.slice none 0 0, .int .i64 c]) ∧ Kept w w' := by
  have KG : Kept w (w.alloc (Obj.cells #[.int .i64 nodes, .slice ao m cap] 24)) := (Kept.refl w).alloc _
  have g0 : (w.alloc (Obj.cells #[.int .i64 nodes, .slice ao m cap] 24)).cell? ⟨w.heap.size, 0, none⟩ = some (.int .i64 nodes) := by simp [go_sem]
  have g1 : (w.alloc (Obj.cells #[.int .i64 nodes, .slice ao m cap] 24)).cell? ⟨w.heap.size, 1, none⟩ = some (.slice ao m cap) := by simp [go_sem]
  have HE := hid_of (h.kept KG)
  have hq : (c != 0) = true := by simpa using hb
  clear h hb
  go_enter Try.func21, Try.ntmps21
  go_wp2_with fail
  generalize hW0 : w.alloc (Obj.cells #[.int .i64 nodes, .slice ao m cap] 24) = W0 at KG g0 g1 HE ⊢
  clear hW0
  refine (checkR_calls nodes ao m cap es W0 HE.out c a hf).mono ?_
  rintro v wa ⟨rfl, K1⟩
  have KA := hid_of (KG.trans K1)
  clear K1 KG HE g1 g0
  go_wp2_with fail
  go_ret2
  exact ⟨rfl, KA.out⟩

/-- The rows of levels of the first k nodes. -/
structure RAt (w : World) (q n k : Nat) (lvs : Nat → Nat → Int) (G : Nat → Nat) : Prop where
  row : w.rowIs q 26 n (fun v => if v < k then .slice (some ⟨G v, 0, none⟩) n n else .slice none 0 0)
  ints : ∀ v, v < k → IntsAt w (G v) n (lvs v) ∧ G v ≠ q

theorem RAt.kept {w w' : World} {q n k : Nat} {lvs : Nat → Nat → Int} {G : Nat → Nat} (h : RAt w q n k lvs G) (K : Kept w w') : RAt w' q n k lvs G :=
  ⟨h.row.of_block (K.block q h.row.lt), fun v hv => ⟨(h.ints v hv).1.kept K, (h.ints v hv).2⟩⟩

set_option maxRecDepth 100000 in
set_option maxHeartbeats 8000000 in
theorem strongR_calls (n : Nat) (hn : n ≤ 1024) (ao : Option Addr) (m cap : Nat) (es : List Ed) (w : World) (h : ERow w ao m cap es) (hf : Hid (faultOf (n : Int) es = (0, 0))) (hrg : Hid (∀ e ∈ es, 0 ≤ e.f ∧ e.f < (n : Int) ∧ 0 ≤ e.t ∧ e.t < (n : Int))) :
    Calls Try.prog 21 #[.agg #[.int .i64 (n : Int), .slice ao m cap]] w fun r w' => ∃ g c cnt, r = .returned (.tuple #[.slice (some ⟨g, 0, none⟩) n n, .int .i64 0]) ∧ IntsAt w' g n c ∧ NumOf n (Mut es) c cnt ∧ Kept w w' := by
  obtain ⟨lvs, hlvs⟩ := levs_all hrg.out
  have RCH : Hid (∀ s, s < n → ∀ v, (0 ≤ lvs s v ↔ Way (outs es) s v)) := fun s hs v => (hlvs s hs).reach hrg.out v
  have HLV := hid_of hlvs
  clear hlvs
  have hmkI : ∀ w : World, (Instr.makeSlice 26 (.int .i64 (n : Int)) (.int .i64 (n : Int))).run Try.prog w = .ok (.slice (some ⟨w.heap.size, 0, none⟩) n n) (w.alloc (.cells (madeCells #[.int .i64 0] n) 3)) :=
    fun w => run_make_row' 26 3 (.int .i64 0) 8 Try.underlying26 infoJ0 rfl .i64 .i64 n (by omega) (by omega) w
  have hmkS : ∀ w : World, (Instr.makeSlice 53 (.int .i64 (n : Int)) (.int .i64 (n : Int))).run Try.prog w = .ok (.slice (some ⟨w.heap.size, 0, none⟩) n n) (w.alloc (.cells (madeCells #[.slice none 0 0] n) 26)) :=
    fun w => run_make_row' 53 26 (.slice none 0 0) 24 Try.underlying53 infoS0 rfl .i64 .i64 n (by omega) (by omega) w
  have KG : Kept w (w.alloc (Obj.cells #[.int .i64 (n : Int), .slice ao m cap] 24)) := (Kept.refl w).alloc _
  have g0 : (w.alloc (Obj.cells #[.int .i64 (n : Int), .slice ao m cap] 24)).cell? ⟨w.heap.size, 0, none⟩ = some (.int .i64 (n : Int)) := by simp [go_sem]
  have g1 : (w.alloc (Obj.cells #[.int .i64 (n : Int), .slice ao m cap] 24)).cell? ⟨w.heap.size, 1, none⟩ = some (.slice ao m cap) := by simp [go_sem]
  have HE := hid_of (h.kept KG)
  clear h
  go_enter Try.func21, Try.ntmps21
  go_wp2_with fail
  generalize hW0 : w.alloc (Obj.cells #[.int .i64 (n : Int), .slice ao m cap] 24) = W0 at KG g0 g1 HE ⊢
  clear hW0
  refine (checkR_calls (n : Int) ao m cap es W0 HE.out 0 0 hf).mono ?_
  rintro v wa ⟨rfl, K1⟩
  replace g0 := K1.cell g0
  replace g1 := K1.cell g1
  have HE1 := hid_of (HE.out.kept K1)
  have KA := hid_of (KG.trans K1)
  clear K1 KG HE
  have R1 := World.rowIs_made wa (.slice none 0 0) n 26
  have K1 : Kept wa (wa.alloc (.cells (madeCells #[.slice none 0 0] n) 26)) := (Kept.refl wa).alloc _
  have R1H : Hid (RAt (wa.alloc (.cells (madeCells #[.slice none 0 0] n) 26)) wa.heap.size n 0 lvs (fun _ => 0)) := ⟨World.rowIs.congr R1 (fun i _ => by simp), fun v hv => absurd hv (Nat.not_lt_zero _)⟩
  have K1H := hid_of K1
  clear R1 K1
  go_upto_region 5 with fail
  generalize hW1 : wa.alloc (.cells (madeCells #[.slice none 0 0] n) 26) = W1 at *
  clear hW1 hmkS
  obtain ⟨q, hq⟩ : ∃ q, wa.heap.size = q := ⟨_, rfl⟩
  rw [hq] at R1H ⊢
  have HQ := hid_of hq
  clear hq
  go_wp2_with fail
  go_loopw [7] (fun i wr => ∃ (k : Nat) (G : Nat → Nat), k ≤ n ∧ i = .int .i64 (k : Int) ∧ RAt wr q n k lvs G ∧ Kept wa wr) (fun i _ => n - (intOf i).toNat)
  case atStart => exact ⟨0, _, by omega, rfl, R1H.out, K1H.out⟩
  case round =>
    obtain ⟨k, G, hk, rfl, R2, K2⟩ := hrel
    clear R1H K1H
    have x0 := K2.cell g0
    have x1 := K2.cell g1
    by_cases hgo : (k : Int) < (n : Int)
    · have hkn : k < n := by omega
      have LC := hid_of (levelsR_calls n hn ao m cap es wr (HE1.out.kept K2) hf hrg k hkn (lvs k) (HLV.out k hkn))
      have R2H := hid_of R2
      have K2H := hid_of K2
      clear R2 K2
      go_wp2_with fail
      refine LC.out.mono ?_
      rintro r w3 ⟨g, rfl, I3, K3⟩
      have R3 := R2H.out.kept K3
      have cq := R3.row.cell hkn
      rw [if_neg (Nat.lt_irrefl k)] at cq
      have fq := R3.row.frozen k
      have hqlt : q < wr.heap.size := R2H.out.row.lt
      have hgq : g ≠ q := fun e => by
        subst e
        have h1 := I3.cell hkn
        rw [cq] at h1
        simp at h1
      have CS : Ch (fun j => j = q) w3 (w3.setCell ⟨q, k, none⟩ (.slice (some ⟨g, 0, none⟩) n n)) := (Ch.refl (fun j => j = q) w3).setCell (F := fun j => j = q) (p := ⟨q, k, none⟩) rfl _
      have RN : Hid (RAt (w3.setCell ⟨q, k, none⟩ (.slice (some ⟨g, 0, none⟩) n n)) q n (k + 1) lvs (fun v => if v = k then g else G v)) := by
        refine ⟨World.rowIs.congr (R3.row.set k (.slice (some ⟨g, 0, none⟩) n n)) (fun v _ => ?_), fun v hv => ?_⟩
        · by_cases e : v = k
          · rw [if_pos e, if_pos (by omega), if_pos e]
          · by_cases e2 : v < k
            · rw [if_neg e, if_pos e2, if_pos (by omega), if_neg e]
            · rw [if_neg e, if_neg e2, if_neg (by omega)]
        · by_cases e : v = k
          · rw [if_pos e, e]; exact ⟨I3.ch CS hgq, hgq⟩
          · rw [if_neg e]
            have := R3.ints v (by omega)
            exact ⟨this.1.ch CS this.2, this.2⟩
      have KN : Hid (Kept wa (w3.setCell ⟨q, k, none⟩ (.slice (some ⟨g, 0, none⟩) n n))) := (K2H.out.trans K3).setCell (p := ⟨q, k, none⟩) (by rw [HQ.out]; exact Nat.le_refl _) _
      clear R3 CS I3 K3 LC R2H K2H
      go_wp2_with fail
      go_roundw
      case rel => exact ⟨k + 1, _, by omega, by go_num, RN.out, KN.out⟩
      case measure => simp [intOf]; omega
    · obtain rfl : k = n := by omega
      have I1 := World.rowIs_made wr (.int .i64 0) k 3
      have K1 : Kept wr (wr.alloc (.cells (madeCells #[.int .i64 0] k) 3)) := (Kept.refl wr).alloc _
      have I1H : Hid (IntsAt (wr.alloc (.cells (madeCells #[.int .i64 0] k) 3)) wr.heap.size k (fun _ => 0)) := World.rowIs.congr I1 (fun i _ => rfl)
      have R3 := hid_of (R2.kept K1)
      have K3 := hid_of (K2.trans K1)
      have hqlt : q < wr.heap.size := R2.row.lt
      have hGlt : Hid (∀ v, v < k → G v < wr.heap.size) := fun v hv => (R2.ints v hv).1.lt
      have hawr : wa.heap.size ≤ wr.heap.size := K2.size
      clear I1 K1 R2 K2
      go_upto_region 10 with fail
      generalize hW3 : wr.alloc (.cells (madeCells #[.int .i64 0] k) 3) = W3 at *
      clear hW3 hmkI
      obtain ⟨g, hg⟩ : ∃ g, wr.heap.size = g := ⟨_, rfl⟩
      rw [hg] at I1H hqlt hGlt hawr ⊢
      clear hg x0 x1
      go_wp2_with fail
      go_loopw [9] (fun i wr => ∃ (v : Nat) (l : Nat → Nat), v ≤ k ∧ i = .int .i64 (v : Int) ∧ IntsAt wr g k (fun x => if x < v then ((l x : Nat) : Int) else 0) ∧ (∀ x, x < v → LAt k (Mut es) x 0 (l x)) ∧ Ch (fun j => j = g) W3 wr) (fun i _ => k - (intOf i).toNat)
      case atStart => exact ⟨0, fun _ => 0, by omega, rfl, World.rowIs.congr I1H.out (fun x _ => by simp), fun x hx => absurd hx (Nat.not_lt_zero _), Ch.refl _ _⟩
      case round =>
        obtain ⟨v, l, hv, rfl, I4, LA, C4⟩ := hrel
        clear I1H
        have x0 := C4.cell (K3.out.cell g0) (by have := lt_cell g0; simp only at this; omega)
        by_cases hgo : (v : Int) < (k : Int)
        · have hvk : v < k := by omega
          have cv := I4.cell hvk
          have fv := World.rowIs.frozen I4 v
          rw [if_neg (Nat.lt_irrefl v)] at cv
          have C5 : Hid (Ch (fun j => j = g) W3 (wr.setCell ⟨g, v, none⟩ (.int .i64 (v : Int)))) := C4.setCell (F := fun j => j = g) (p := ⟨g, v, none⟩) rfl _
          have x5 := (C5.out.cell (K3.out.cell g0) (by have := lt_cell g0; simp only at this; omega))
          have I5 : Hid (IntsAt (wr.setCell ⟨g, v, none⟩ (.int .i64 (v : Int))) g k (fun x => if x < v then ((l x : Nat) : Int) else if x = v then (v : Int) else 0)) := (IntsAt.set I4 v (v : Int)).congr (fun x _ => by
            dsimp only
            by_cases e : x = v
            · rw [if_pos e, if_neg (by omega), if_pos e]
            · rw [if_neg e]
              by_cases e2 : x < v
              · rw [if_pos e2, if_pos e2]
              · rw [if_neg e2, if_neg e2, if_neg e])
          have LAH := hid_of LA
          have L0 : Hid (LAt k (Mut es) v k v) := ⟨Nat.le_refl _, ⟨Way.refl _, Way.refl _⟩, fun u hu1 hu2 => by omega⟩
          clear I4 C4 LA
          go_wp2_with fail
          go_loopw [10] (fun i wr => ∃ (p c : Nat), p ≤ k ∧ i = .int .i64 ((p : Int) - 1) ∧ IntsAt wr g k (fun x => if x < v then ((l x : Nat) : Int) else if x = v then (c : Int) else 0) ∧ LAt k (Mut es) v p c ∧ Ch (fun j => j = g) W3 wr) (fun i _ => (intOf i + 1).toNat)
          case atStart => exact ⟨k, v, Nat.le_refl _, by go_num, I5.out, L0.out, C5.out⟩
          case round =>
            obtain ⟨p, c, hp, rfl, I6, L6, C6⟩ := hrel
            clear I5 L0 C5 x5 cv fv x0
            cases p with
            | zero =>
              have IN : Hid (IntsAt wr g k (fun x => if x < v + 1 then (((fun x => if x = v then c else l x) x : Nat) : Int) else 0)) := World.rowIs.congr I6 (fun x _ => by
                dsimp only
                by_cases e : x = v
                · rw [if_neg (by omega), if_pos e, if_pos (by omega), if_pos e]
                · by_cases e2 : x < v
                  · rw [if_pos e2, if_pos (by omega), if_neg e]
                  · rw [if_neg e2, if_neg e, if_neg (by omega)])
              have LN : Hid (∀ x, x < v + 1 → LAt k (Mut es) x 0 ((fun x => if x = v then c else l x) x)) := fun x hx => by
                dsimp only
                by_cases e : x = v
                · rw [if_pos e, e]; exact L6
                · rw [if_neg e]; exact LAH.out x (by omega)
              have C7 := hid_of C6
              clear I6 L6 C6
              go_wp2_with fail
              go_roundw
              case rel => exact ⟨v + 1, _, by omega, by go_num, IN.out, LN.out, C7.out⟩
              case measure => simp [intOf]; omega
            | succ p =>
              have E1 : ((p + 1 : Nat) : Int) - 1 = (p : Int) := by omega
              rw [E1]
              have hpk : p < k := by omega
              have hpi : (p : Int) < (k : Int) := by omega
              have R6 : RAt wr q k k lvs G := ⟨R3.out.row.of_block (C6.block q R3.out.row.lt (by omega)), fun x hx => ⟨(R3.out.ints x hx).1.ch C6 (by have := hGlt.out x hx; omega), (R3.out.ints x hx).2⟩⟩
              have rp := R6.row.cell hpk
              have rv := R6.row.cell hvk
              rw [if_pos hpk] at rp
              rw [if_pos hvk] at rv
              have lp := (R6.ints p hpk).1.cell hvk
              have lv := (R6.ints v hvk).1.cell hpk
              have cv := I6.cell hvk
              rw [if_neg (Nat.lt_irrefl v), if_pos rfl] at cv
              have fv := World.rowIs.frozen I6 v
              have w1 := RCH.out p hpk v
              have w2 := RCH.out v hvk p
              obtain ⟨z1, hz1⟩ : ∃ z, lvs p v = z := ⟨_, rfl⟩
              obtain ⟨z2, hz2⟩ : ∃ z, lvs v p = z := ⟨_, rfl⟩
              rw [hz1] at lp w1
              rw [hz2] at lv w2
              generalize G p = gp' at rp lp
              generalize G v = gv' at rv lv
              have I6H := hid_of I6
              have C6H := hid_of C6
              have L6H := hid_of L6
              have W1H := hid_of w1
              have W2H := hid_of w2
              clear I6 C6 L6 R6 hz1 hz2 w1 w2
              have keep : Hid (¬ (0 ≤ z1 ∧ 0 ≤ z2 ∧ p < c) → LAt k (Mut es) v p c) := fun hno => by
                refine ⟨L6H.out.le, L6H.out.rel, fun u hu1 hu2 hr => ?_⟩
                by_cases e : u = p
                · subst e
                  apply Classical.byContradiction
                  intro hlt
                  exact hno ⟨W1H.out.2 hr.1, W2H.out.2 hr.2, by omega⟩
                · exact L6H.out.least u (by omega) hu2 hr
              by_cases c1 : 0 ≤ z1
              · by_cases c2 : 0 ≤ z2
                · by_cases c3 : p < c
                  · have c3i : (p : Int) < (c : Int) := by omega
                    have LN : Hid (LAt k (Mut es) v p p) := ⟨by have := L6H.out.le; omega, ⟨W1H.out.1 c1, W2H.out.1 c2⟩, fun u hu1 _ _ => hu1⟩
                    have IN : Hid (IntsAt (wr.setCell ⟨g, v, none⟩ (.int .i64 (p : Int))) g k (fun x => if x < v then ((l x : Nat) : Int) else if x = v then (p : Int) else 0)) := (IntsAt.set I6H.out v (p : Int)).congr (fun x _ => by
                      dsimp only
                      by_cases e : x = v
                      · rw [if_pos e, if_neg (by omega), if_pos e]
                      · rw [if_neg e]
                        by_cases e2 : x < v
                        · rw [if_pos e2, if_pos e2]
                        · rw [if_neg e2, if_neg e2, if_neg e, if_neg e])
                    have CN : Hid (Ch (fun j => j = g) W3 (wr.setCell ⟨g, v, none⟩ (.int .i64 (p : Int)))) := C6H.out.setCell (F := fun j => j = g) (p := ⟨g, v, none⟩) rfl _
                    clear I6H C6H L6H keep W1H W2H
                    go_wp2_with fail
                    go_roundw
                    case rel => exact ⟨p, p, by omega, by go_num, IN.out, LN.out, CN.out⟩
                    case measure => simp [intOf]
                  · have LN := hid_of (keep.out (fun t => c3 t.2.2))
                    have c3i : ¬ (p : Int) < (c : Int) := by omega
                    clear L6H keep W1H W2H
                    go_wp2_with fail
                    go_roundw
                    case rel => exact ⟨p, c, by omega, by go_num, I6H.out, LN.out, C6H.out⟩
                    case measure => simp [intOf]
                · have LN := hid_of (keep.out (fun t => c2 t.2.1))
                  clear L6H keep W1H W2H
                  go_wp2_with fail
                  go_roundw
                  case rel => exact ⟨p, c, by omega, by go_num, I6H.out, LN.out, C6H.out⟩
                  case measure => simp [intOf]
              · have LN := hid_of (keep.out (fun t => c1 t.1))
                clear L6H keep W1H W2H
                go_wp2_with fail
                go_roundw
                case rel => exact ⟨p, c, by omega, by go_num, I6H.out, LN.out, C6H.out⟩
                case measure => simp [intOf]
        · obtain rfl : v = k := by omega
          have I5 : IntsAt wr g v (fun x => ((l x : Nat) : Int)) := World.rowIs.congr I4 (fun x hx => by dsimp only; rw [if_pos hx])
          have LST : Least v (Mut es) l := ⟨fun x hx => (LA x hx).le, fun x hx => (LA x hx).rel, fun u x hu hx hr => (LA x hx).least u (Nat.zero_le _) hu hr⟩
          have NC := hid_of (numR_calls v hn l (fun x hx => (LA x hx).le) g wr I5)
          have NUM := hid_of (dnr_num LST (fun u x _ _ t => ⟨t.2, t.1⟩) (fun u x y _ _ _ s t => ⟨s.1.trans t.1, t.2.trans s.2⟩))
          have K5 := hid_of (KA.out.trans (K3.out.ch C4 (fun j t => by omega)))
          clear I4 I5 C4 LA LST
          go_wp2_with fail
          refine NC.out.mono ?_
          rintro rr w5 ⟨g', rfl, I6, K6, hg'⟩
          have FI := hid_of I6
          have FK := hid_of (K5.out.trans K6)
          clear I6 K6 NC
          go_wp2_with fail
          go_ret2
          exact ⟨g', _, _, rfl, FI.out, NUM.out, FK.out⟩
end Go.Proofs.Ytjheiaegpoppaaa
