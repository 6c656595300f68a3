import Derived.Test.YtabmdknlncijjaaW9
import Derived.Maps.Own
import Derived.Maps.OwnOps
import Derived.Maps.OwnSet
import Derived.Maps.RangeWalk
import Derived.Maps.Ext
namespace Go.Proofs.Ytabmdknlncijjaa
open Go.RowKit Go.Maps
set_option linter.unusedVariables false
set_option linter.unusedSimpArgs false

theorem run_makeMap58 (n : Int) (w : World) : (Instr.makeMap 58 (some (.int .i64 n))).run Try.prog w = .ok (.map (some w.heap.size)) (w.alloc (.map #[] 0)) := by
  simp [Instr.makeMap, run_underlying Try.underlying58, asInt, asIntOf, Result.andThen]

set_option maxRecDepth 100000 in
set_option maxHeartbeats 1000000 in
theorem byKey_nil (w : World) : Calls Try.prog 22 #[.slice none 0 0] w fun e w' => e = .returned (.tuple #[.map (some w.heap.size), .bool true]) ∧ w' = w.alloc (.map #[] 0) := by
  have hmm := run_makeMap58
  go_enter Try.func22, Try.ntmps22
  go_wp2
  refine wp_loop_rounds 1 ?_
  rw [rounds_succ]
  go_wp2
  go_ret2
  exact ⟨rfl, rfl⟩

theorem law3 : Keyed Try.prog 3 := int_keyed Try.underlying3

def noElem : Value → Option (DataW Unit × List MemPlace) := fun _ => none

theorem invK3 : ∀ key kl, keyOf Try.prog 3 key = some kl → ∃ x, key = Value.int .i64 x := fun key kl hk => by
  obtain ⟨x, hx, _⟩ := Maps.keyOf_int_inv Try.underlying3 hk
  exact ⟨x, hx⟩
theorem invNo : ∀ v y, noElem v = some y → ∃ c, v = Value.int .i64 c := fun v y hv => by cases hv

set_option maxRecDepth 100000 in
set_option maxHeartbeats 1000000 in
theorem settle_empty (bs bw n : Nat) (w : World) (hown : w.ownsMap Try.prog 3 noElem bw n (.map [])) :
    Calls Try.prog 24 #[.map (some bs), .map (some bw)] w fun e w' => e = .returned (.tuple #[]) ∧ Keeps (fun _ => False) w w' := by
  go_enter Try.func24, Try.ntmps24
  go_wp2_with (at_range; refine wpList_range_own _ rfl _ _ rfl 3 88 law3 Try.underlying61 noElem bw n _ rfl hown ?_; intro w0 hrg0 hg0 hs0)
  go_frame
  refine wp_loop_rounds 1 ?_
  rw [rounds_succ]
  go_wp2_with (at_next; refine wpList_next_ranges _ rfl _ rfl 3 law3 noElem (Value.int .i64) (Value.int .i64) invK3 invNo bw w.heap.size n _ _ _ rfl hrg0 ?_ ?_)
  · intro _ hl0
    go_wp2
    go_end0
    exact ⟨rfl, ((Keeps.refl _ w).grown hg0 (fun k e => by cases e))⟩
  · intro x c kl yd yp w2 cnt2 hkey hlk
    simp [Maps.has] at hlk

end Go.Proofs.Ytabmdknlncijjaa
