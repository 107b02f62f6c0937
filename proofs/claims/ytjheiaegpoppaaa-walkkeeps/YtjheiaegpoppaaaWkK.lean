/- The document's levels: the mathematics, and its Wrong. -/
import Derived.Test.YtjheiaegpoppaaaWkJ
namespace Go.Proofs.Ytjheiaegpoppaaa
open Go.RowKit

/-- In round d, behind k edges. -/
structure DIn (es : List Ed) (n : Nat) (lv : Nat → Int) (d k : Nat) (f : Nat → Int) : Prop where
  low : ∀ u, u < n → lv u ≤ (d : Int) → f u = lv u
  mid : ∀ u, u < n → lv u = (d : Int) + 1 → f u = -1 ∨ f u = (d : Int) + 1
  high : ∀ u, u < n → (d : Int) + 1 < lv u → f u = -1
  done : ∀ j, j < k → lv (edAt es j).f.toNat = (d : Int) → lv (edAt es j).t.toNat = (d : Int) + 1 → f (edAt es j).t.toNat = (d : Int) + 1

theorem DIn.start {es : List Ed} {n s : Nat} {lv : Nat → Int} (L : Levs es n s lv) : DIn es n lv 0 0 (fun j => if j = s then 0 else -1) := by
  refine ⟨fun u _ hu => ?_, fun u _ hu => ?_, fun u _ hu => ?_, fun j hj => by omega⟩
  · by_cases e : u = s
    · subst e; simp [L.s0]
    · have h1 := L.low u
      have h2 : lv u ≠ 0 := fun t => e (L.zero u t)
      simp only [e, if_false]
      omega
  · have e : u ≠ s := fun t => by subst t; rw [L.s0] at hu; omega
    simp [e]
  · have e : u ≠ s := fun t => by subst t; rw [L.s0] at hu; omega
    simp [e]

theorem DIn.at_ {es : List Ed} {n : Nat} {lv : Nat → Int} {d k : Nat} {f : Nat → Int} (h : DIn es n lv d k f) {x : Nat} (hx : x < n) (e : f x = (d : Int)) : lv x = (d : Int) := by
  by_cases h1 : lv x ≤ (d : Int)
  · rw [← h.low x hx h1]; exact e
  · by_cases h2 : lv x = (d : Int) + 1
    · rcases h.mid x hx h2 with t | t <;> omega
    · have := h.high x hx (by omega); omega

theorem DIn.keep {es : List Ed} {n : Nat} {lv : Nat → Int} {d k : Nat} {f : Nat → Int} (h : DIn es n lv d k f) {x y : Nat} (hx : (edAt es k).f = (x : Int)) (hy : (edAt es k).t = (y : Int)) (hxn : x < n) (hyn : y < n) (hno : ¬ (f x = (d : Int) ∧ f y < 0)) : DIn es n lv d (k + 1) f := by
  refine ⟨h.low, h.mid, h.high, fun j hj h1 h2 => ?_⟩
  by_cases e : j = k
  · subst e
    rw [hx, Int.toNat_natCast] at h1
    rw [hy, Int.toNat_natCast] at h2 ⊢
    have a := h.low x hxn (by omega)
    rcases h.mid y hyn h2 with t | t
    · exact absurd ⟨by omega, by omega⟩ hno
    · exact t
  · exact h.done j (by omega) h1 h2

theorem DIn.set {es : List Ed} {n s : Nat} {lv : Nat → Int} (L : Levs es n s lv) {d k : Nat} {f : Nat → Int} (h : DIn es n lv d k f) {x y : Nat} (hx : (edAt es k).f = (x : Int)) (hy : (edAt es k).t = (y : Int)) (hm : edAt es k ∈ es) (hxn : x < n) (hyn : y < n) (h1 : f x = (d : Int)) (h2 : f y < 0) : DIn es n lv d (k + 1) (fun j => if j = y then (d : Int) + 1 else f j) := by
  have e1 := h.at_ hxn h1
  have e2 := L.edge _ hm
  rw [hx, hy, Int.toNat_natCast, Int.toNat_natCast] at e2
  obtain ⟨e3, e4⟩ := e2 (by omega)
  have e5 : lv y = (d : Int) + 1 := by
    by_cases t : lv y ≤ (d : Int)
    · have := h.low y hyn t; omega
    · omega
  refine ⟨fun u hu hl => ?_, fun u hu hl => ?_, fun u hu hl => ?_, fun j hj a b => ?_⟩
  · by_cases e : u = y
    · subst e; omega
    · simp only [e, if_false]; exact h.low u hu hl
  · by_cases e : u = y
    · simp [e]
    · simp only [e, if_false]; exact h.mid u hu hl
  · by_cases e : u = y
    · subst e; omega
    · simp only [e, if_false]; exact h.high u hu hl
  · by_cases e : (edAt es j).t.toNat = y
    · simp [e]
    · simp only [e, if_false]
      refine h.done j ?_ a b
      by_cases t : j = k
      · subst t; rw [hy, Int.toNat_natCast] at e; exact absurd rfl e
      · omega

theorem DIn.next {es : List Ed} {n s : Nat} {lv : Nat → Int} (L : Levs es n s lv) {d : Nat} {f : Nat → Int} (h : DIn es n lv d es.length f) : DIn es n lv (d + 1) 0 f := by
  refine ⟨fun u hu hl => ?_, fun u hu hl => .inl (h.high u hu (by omega)), fun u hu hl => h.high u hu (by omega), fun j hj => by omega⟩
  by_cases e : lv u ≤ (d : Int)
  · exact h.low u hu e
  · have e1 : lv u = (d : Int) + 1 := by omega
    obtain ⟨p, hp, ht, h0, h1⟩ := L.pred u (by omega)
    obtain ⟨j, hj, rfl⟩ := List.getElem_of_mem hp
    have ej : edAt es j = es[j] := by simp [edAt, List.getD, hj]
    have := h.done j hj (by rw [ej]; omega) (by rw [ej, ht, Int.toNat_natCast]; exact e1)
    rw [ej, ht, Int.toNat_natCast] at this
    omega

theorem DIn.last {es : List Ed} {n s : Nat} {lv : Nat → Int} (L : Levs es n s lv) {f : Nat → Int} (h : DIn es n lv n 0 f) : ∀ u, u < n → f u = lv u := fun u hu => h.low u hu (L.top u)

set_option maxRecDepth 100000 in
set_option maxHeartbeats 4000000 in
theorem wrongR_calls (nodes : Int) (ao : Option Addr) (m cap : Nat) (es : List Ed) (w : World) (h : ERow w ao m cap es) (c a : Int) (hf : Hid (faultOf nodes es = (c, a))) (s : Int) (cc : Int) (hcc : Hid (cc = if c = 0 then (if s < 0 ∨ nodes ≤ s then 30 else 0) else c)) :
    Calls Try.prog 45 #[.agg #[.int .i64 nodes, .slice ao m cap], .int .i64 s] w fun r w' => r = .returned (.int .i64 cc) ∧ Kept w w' := by
  have KG : Kept w (w.alloc (Obj.cells #[.int .i64 nodes, .slice ao m cap] 24)) := (Kept.refl w).alloc _
  have g0 : (w.alloc (Obj.cells #[.int .i64 nodes, .slice ao m cap] 24)).cell? ⟨w.heap.size, 0, none⟩ = some (.int .i64 nodes) := by simp [go_sem]
  have g1 : (w.alloc (Obj.cells #[.int .i64 nodes, .slice ao m cap] 24)).cell? ⟨w.heap.size, 1, none⟩ = some (.slice ao m cap) := by simp [go_sem]
  have HE := hid_of (h.kept KG)
  clear h
  go_enter Try.func45, Try.ntmps45
  go_wp2_with fail
  generalize hW0 : w.alloc (Obj.cells #[.int .i64 nodes, .slice ao m cap] 24) = W0 at KG g0 g1 HE ⊢
  clear hW0
  refine (checkR_calls nodes ao m cap es W0 HE.out c a hf).mono ?_
  rintro v wa ⟨rfl, K1⟩
  replace g0 := K1.cell g0
  have KA := hid_of (KG.trans K1)
  clear K1 KG HE g1
  by_cases hc : c = 0
  · subst hc
    by_cases hs : s < 0
    · have e : cc = 30 := hcc.out.trans (by simp [hs])
      subst e
      clear hcc
      go_wp2_with fail
      go_ret
      exact ⟨rfl, KA.out⟩
    · by_cases hs2 : nodes ≤ s
      · have e : cc = 30 := hcc.out.trans (by simp [hs2])
        subst e
        clear hcc
        go_wp2_with fail
        go_ret
        exact ⟨rfl, KA.out⟩
      · have e : cc = 0 := hcc.out.trans (by simp [hs, hs2])
        subst e
        clear hcc
        go_wp2_with fail
        go_ret
        exact ⟨rfl, KA.out⟩
  · have e : cc = c := hcc.out.trans (if_neg hc)
    subst e
    clear hcc
    have q : (cc == 0) = false := by simpa using hc
    go_wp2_with fail
    go_ret
    exact ⟨rfl, KA.out⟩
end Go.Proofs.Ytjheiaegpoppaaa
