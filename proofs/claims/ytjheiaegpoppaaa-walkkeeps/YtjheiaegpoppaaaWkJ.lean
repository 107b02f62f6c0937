/- Levels where it refuses. -/
import Derived.Test.YtjheiaegpoppaaaWkI
namespace Go.Proofs.Ytjheiaegpoppaaa
open Go.RowKit

set_option maxRecDepth 100000 in
set_option maxHeartbeats 4000000 in
theorem levelsBad_calls (nodes : Int) (ao : Option Addr) (m cap : Nat) (es : List Ed) (w : World) (h : ERow w ao m cap es) (c a : Int) (hf : Hid (faultOf nodes es = (c, a))) (s : Int) (hb : c ≠ 0 ∨ s < 0 ∨ nodes ≤ s) (cc : Int) (hcc : Hid (cc = if c = 0 then 30 else c)) :
    Calls Try.prog 23 #[.agg #[.int .i64 nodes, .slice ao m cap], .int .i64 s] w fun r w' => r = .returned (.tuple #[.slice none 0 0, .int .i64 cc]) ∧ Kept w w' := by
  have hfd : ∀ w : World, (Instr.field 50 (.agg #[.int .i64 c, .int .i64 a]) 0).run Try.prog w = .ok (.int .i64 c) w := fun _ => rfl
  have KG : Kept w (w.alloc (Obj.cells #[.int .i64 nodes, .slice ao m cap] 24)) := (Kept.refl w).alloc _
  have g0 : (w.alloc (Obj.cells #[.int .i64 nodes, .slice ao m cap] 24)).cell? ⟨w.heap.size, 0, none⟩ = some (.int .i64 nodes) := by simp [go_sem]
  have g1 : (w.alloc (Obj.cells #[.int .i64 nodes, .slice ao m cap] 24)).cell? ⟨w.heap.size, 1, none⟩ = some (.slice ao m cap) := by simp [go_sem]
  have HE := hid_of (h.kept KG)
  have HB := hid_of hb
  clear h hb
  go_enter Try.func23, Try.ntmps23
  go_wp2_with fail
  generalize hW0 : w.alloc (Obj.cells #[.int .i64 nodes, .slice ao m cap] 24) = W0 at KG g0 g1 HE ⊢
  clear hW0
  refine (check_calls nodes ao m cap es W0 HE.out c a hf).mono ?_
  rintro v wa ⟨rfl, K1⟩
  replace g0 := K1.cell g0
  have KA := hid_of (KG.trans K1)
  clear K1 KG HE g1
  by_cases hc : c = 0
  · subst hc
    have e : cc = 30 := hcc.out.trans (if_pos rfl)
    subst e
    clear hcc
    have hs : s < 0 ∨ (¬ s < 0 ∧ nodes ≤ s) := by have := HB.out; omega
    rcases hs with hs | ⟨hs, hs2⟩
    · go_wp2_with fail
      go_ret2
      exact ⟨rfl, KA.out⟩
    · go_wp2_with fail
      go_ret2
      exact ⟨rfl, KA.out⟩
  · have e : cc = c := hcc.out.trans (if_neg hc)
    subst e
    clear hcc
    have q : (cc != 0) = true := by simpa using hc
    go_wp2_with fail
    go_ret2
    exact ⟨rfl, KA.out⟩
end Go.Proofs.Ytjheiaegpoppaaa
