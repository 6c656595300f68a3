import Derived.Test.YtedbdejhpjkofaaW9
import Derived.Maps.Own
import Derived.Maps.OwnOps
import Derived.Maps.OwnSet
import Derived.Maps.RangeWalk
import Derived.Maps.Ext
namespace Go.Proofs.Ytedbdejhpjkofaa
open Go.RowKit Go.Maps
set_option linter.unusedVariables false
set_option linter.unusedSimpArgs false

theorem run_makeMapS (n : Int) (w : World) : (Instr.makeMap 56 (some (.int .i64 n))).run Try.prog w = .ok (.map (some w.heap.size)) (w.alloc (.map #[] 0)) := by
  simp [Instr.makeMap, run_underlying Try.underlying56, asInt, asIntOf, Result.andThen]

theorem run_makeMapC (w : World) : (Instr.makeMap 59 none).run Try.prog w = .ok (.map (some w.heap.size)) (w.alloc (.map #[] 0)) := by
  simp [Instr.makeMap, run_underlying Try.underlying59, Result.andThen]

theorem law3 : Keyed Try.prog 3 := int_keyed Try.underlying3

theorem invK3 : ∀ key kl, keyOf Try.prog 3 key = some kl → ∃ x, key = Value.int .i64 x := fun key kl hk => by
  obtain ⟨x, hx, _⟩ := Maps.keyOf_int_inv Try.underlying3 hk
  exact ⟨x, hx⟩

theorem holds_keeps {w w' : World} {g : Nat} {Is : List Hd.Ins} {S : Nat → Prop} (h : HoldsI w g Is) (hk : Keeps S w w') (hg : g < w.heap.size) (hs : ¬ S g) : HoldsI w' g Is := by
  intro i hi
  obtain ⟨c0, c1, c2, c3, c4⟩ := h i hi
  have e : ∀ o, w'.cell? ⟨g, o, none⟩ = w.cell? ⟨g, o, none⟩ := fun o => World.cell?_of_block (a := ⟨g, o, none⟩) (hk.block g hg hs)
  exact ⟨(e _).trans c0, (e _).trans c1, (e _).trans c2, (e _).trans c3, (e _).trans c4⟩

theorem new_at (w : World) (cs : Array Value) (t n : Nat) (h : n = w.heap.size) : (w.alloc (.cells cs t)).heap[n]? = some (.cells cs t (0, 0)) := by
  rw [h]; exact heap_alloc_new w _

theorem map_keeps {H : Type} {w w' : World} {S : Nat → Prop} {k b n : Nat} {R : Value → Option (DataW H × List MemPlace)} {D : DataW H} (h : w.ownsMap Try.prog k R b n D) (hk : Keeps S w w') (hs : ¬ S b) : w'.ownsMap Try.prog k R b n D := by
  have hlt := h.lt
  obtain ⟨es, clock, hb, F, hs', hD⟩ := h
  exact ⟨es, clock, (hk.block b hlt hs).trans hb, F, hs', hD⟩

theorem keeps_new {S : Nat → Prop} {a b c : World} (h : Keeps (fun _ => False) a b) (k : Keeps S b c) (hS : ∀ j, S j → a.heap.size ≤ j) : Keeps (fun _ => False) a c :=
  ⟨k.os.trans h.os, k.tape.trans h.tape, k.output.trans h.output, Nat.le_trans h.size k.size, fun i hi hs => (k.block i (Nat.lt_of_lt_of_le hi h.size) (fun hj => by have := hS i hj; omega)).trans (h.block i hi hs)⟩

theorem own_keeps {w w' : World} {S : Nat → Prop} {base e size n : Nat} {v : Value} {xs : List Value} (h : w.ownsRow base e size v n xs) (hk : Keeps S w w') (hs : ∀ k, v.ownBlock = some k → ¬ S k) : w'.ownsRow base e size v n xs := by
  refine ⟨h.1, ?_⟩
  rcases h.2 with hn | ⟨g, cap, cur, rfl, hb, hgg, rest⟩
  · exact .inl hn
  · exact .inr ⟨g, cap, cur, rfl, hb, (hk.block g (Array.getElem?_eq_some_iff.1 hgg).1 (hs g rfl)).trans hgg, rest⟩

theorem undrew {w w' : World} (h : Below w.drew.heap.size w.drew w') : Below w.heap.size w w' := ⟨h.os, h.tape, h.output, h.size, h.block⟩

theorem own_mono {w : World} {base base' e size n : Nat} {v : Value} {xs : List Value} (h : w.ownsRow base e size v n xs) (hb : base' ≤ base) : w.ownsRow base' e size v n xs := by
  refine ⟨h.1, ?_⟩
  rcases h.2 with hn | ⟨g, cap, cur, hv, hbb, rest⟩
  · exact .inl hn
  · exact .inr ⟨g, cap, cur, hv, Nat.le_trans hb hbb, rest⟩

theorem own_ge2 {w : World} {base e size n B : Nat} {v : Value} {xs : List Value} (h : w.ownsRow base e size v n xs) (hB : B < base) : ¬ v.ownBlock = some B := fun hv => by
  have := own_ge h B hv
  omega

theorem res_cells {w : World} {B t : Nat} {x y : Value} (h : w.heap[B]? = some (.cells #[x, y] t (0, 0))) (u v : Value) :
    (w.setCell ⟨B, 0, none⟩ u).cell? ⟨B, 0, none⟩ = some u ∧ ((w.setCell ⟨B, 0, none⟩ u).setCell ⟨B, 1, none⟩ v).cell? ⟨B, 1, none⟩ = some v := by
  have h1 := heap_setCell_same w B 0 _ t u h
  have h2 := heap_setCell_same _ B 1 _ t v h1
  refine ⟨?_, ?_⟩
  · rw [cell_of_row _ B 0 _ t (0, 0) h1]; rfl
  · rw [cell_of_row _ B 1 _ t (0, 0) h2]; rfl

end Go.Proofs.Ytedbdejhpjkofaa
