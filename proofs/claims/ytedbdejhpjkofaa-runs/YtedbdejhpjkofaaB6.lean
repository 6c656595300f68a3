import Derived.Test.YtedbdejhpjkofaaB5
import Derived.Test.YtedbdejhpjkofaaB4
import Derived.Laws.CopyRow
import Derived.OwnWalk
namespace Go.Proofs.Ytedbdejhpjkofaa
open Go.RowKit Go.Maps
set_option linter.unusedVariables false
set_option linter.unusedSimpArgs false

/-- a copy of pairs into a row -/
theorem run_copy_two {P : Program} (w : World) (dT sT ty elem : TypeId) (g dLen dCap : Nat) (a : Addr) (sLen sCap : Nat) (cur : Array Value) (t : TypeId) (cs : List Value)
    (hu : P.underlying dT = some (.slice elem)) (hs : (P.info? elem).map (·.size) = some 2)
    (hg : w.heap[g]? = some (.cells cur t (0, 0))) (hle : sLen ≤ dLen) (hn : cs.length = sLen * 2)
    (hsrc : ∀ j v, cs[j]? = some v → w.cell? (a.add j) = some v) (hfit : cs.length ≤ cur.size) (h1 : ∀ v ∈ cs, v.oneCell' = true) :
    (Builtin.copy_ #[dT, sT] ty #[.slice (some ⟨g, 0, none⟩) dLen dCap, .slice (some a) sLen sCap]).run P w =
      .ok (goInt sLen) (w.setRow g (cs ++ cur.toList.drop cs.length).toArray) := by
  have hl := run_loadCells_list (P := P) w a cs hsrc
  have hst := run_storeCells_at P g 0 t cs 0 cur w hg (by simpa using hfit) h1
  have hm : Nat.min sLen dLen = sLen := Nat.min_eq_left hle
  cases hq : P.info? elem with
  | none => simp [hq] at hs
  | some i =>
    have hi : i.size = 2 := by simpa [hq] using hs
    simp [Builtin.copy_, run_underlying hu, Builtin.lenOf, Builtin.firstCells, sizeOf, typeInfo, hq, hi, hm, ← hn, hl, hst]

theorem run_copy_zero {P : Program} (w : World) (dT sT ty elem : TypeId) (d a : Option Addr) (dLen dCap sCap : Nat) (hu : P.underlying dT = some (.slice elem)) (hs : (P.info? elem).map (·.size) = some 2) :
    (Builtin.copy_ #[dT, sT] ty #[.slice d dLen dCap, .slice a 0 sCap]).run P w = .ok (goInt 0) w := by
  cases hq : P.info? elem with
  | none => simp [hq] at hs
  | some i =>
    have hl : ∀ (x : Addr), (loadCells x 0).run P w = .ok #[] w := fun x => by simpa using run_loadCells_list (P := P) w x [] (by simp)
    cases d <;> cases a <;> simp [Builtin.copy_, run_underlying hu, Builtin.lenOf, Builtin.firstCells, sizeOf, typeInfo, hq, storeCells, hl]

theorem wpList_copy_two {P : Program} {w : World} {ops : Array Oper} {rest : List Oper} {o : Oper} {a : Act} {Q : Exit → Act → World → Prop} (hgd : o.guard = none) (d s : Operand) (dT sT : TypeId)
    (ho : o.op = .call { callee := .builtin .copy, args := #[d, s], argTypes := #[dT, sT] }) (elem : TypeId) (hu : P.underlying dT = some (.slice elem)) (hsz : (P.info? elem).map (·.size) = some 2)
    (base g dLen dCap : Nat) (sp : Option Addr) (sLen sCap : Nat) (hd : a.eval d = .slice (some ⟨g, 0, none⟩) dLen dCap) (hs : a.eval s = .slice sp sLen sCap)
    (xs : List Value) (hrow : w.ownsRow base elem 2 (.slice (some ⟨g, 0, none⟩) dLen dCap) dLen xs) (hle : sLen ≤ dLen) (cs : List Value) (hn : cs.length = sLen * 2)
    (hsrc : 0 < sLen → ∃ ad, sp = some ad ∧ ∀ j v, cs[j]? = some v → w.cell? (ad.add j) = some v) (h1 : ∀ v ∈ cs, v.oneCell' = true)
    (h : ∀ w', w'.ownsRow base elem 2 (.slice (some ⟨g, 0, none⟩) dLen dCap) dLen (cs ++ xs.drop cs.length) → w.grownBy w' (some g) → wpList P ops Q rest (a.put o.dst (goInt sLen)) w') :
    wpList P ops Q (o :: rest) a w := by
  refine wpList_plain hgd fun K hK => ?_
  by_cases h0 : sLen = 0
  · subst h0
    have hc : cs = [] := List.eq_nil_of_length_eq_zero (by simpa using hn)
    subst hc
    have hrun := run_copy_zero (P := P) w dT sT o.type elem (some ⟨g, 0, none⟩) sp dLen dCap sCap hu hsz
    unfold Oper.wp
    simp [execOp, ho, resolve, invoke, builtin, hd, hs, hrun, Result.andThen]
    exact hK _ _ (h w (by simpa using hrow) ⟨rfl, rfl, rfl, Nat.le_refl _, fun _ _ _ => rfl⟩)
  · obtain ⟨ad, rfl, hsrc2⟩ := hsrc (by omega)
    rcases hrow.2 with ⟨e, _⟩ | ⟨g', cap', cur, e, hb, hg, hnc, hcm, hcs, htake⟩
    · cases e
    · simp only [Value.slice.injEq, Option.some.injEq, Addr.mk.injEq, and_true, true_and] at e
      obtain ⟨rfl, rfl⟩ := e
      have hmul : sLen * 2 ≤ dLen * 2 := Nat.mul_le_mul_right _ hle
      have hmul2 : dLen * 2 ≤ dCap * 2 := Nat.mul_le_mul_right _ hnc
      have hrun := run_copy_two (P := P) w dT sT o.type elem g dLen dCap ad sLen sCap cur elem cs hu hsz hg hle hn hsrc2 (by omega) h1
      have hlen := hrow.1
      unfold Oper.wp
      simp [execOp, ho, resolve, invoke, builtin, hd, hs, hrun, Result.andThen]
      refine hK _ _ (h _ ⟨?_, .inr ⟨g, dCap, _, rfl, hb, setRow_heap w g cur _ elem _ hg, hnc, hcm, ?_, ?_⟩⟩ ⟨rfl, rfl, rfl, by simp, fun k _ hk => setRow_other w g k _ (fun e => hk (by simp [e]))⟩)
      · simp only [List.length_append, List.length_drop]; omega
      · simp only [List.size_toArray, List.length_append, List.length_drop, Array.length_toList]; omega
      · rw [← htake]
        rw [List.take_append, List.take_of_length_le (by omega), List.drop_take]

theorem holdsP_row {w : World} {base g cap len : Nat} {ys : List Value} {Ps : List (Int × Int)} (h : w.ownsRow base 44 2 (.slice (some ⟨g, 0, none⟩) len cap) len (pairCells Ps ++ ys)) (hl : Ps.length ≤ len) (hwf : ∀ p, p ∈ Ps → wf p.1 ∧ wf p.2) : HoldsP w (some ⟨g, 0, none⟩) Ps := by
  intro i hi
  have hpl : (pairCells Ps).length = Ps.length * 2 := by
    clear h hl hwf hi
    induction Ps with
    | nil => rfl
    | cons p r ih => rw [show pairCells (p :: r) = .int .i64 p.1 :: .int .i64 p.2 :: pairCells r from rfl]; simp only [List.length_cons, ih]; omega
  obtain ⟨c0, c1⟩ := pairCells_get Ps i hi
  have hgl : g < w.heap.size := (h.lt g rfl).2
  refine ⟨g, rfl, hgl, ?_, ?_, hwf _ (List.getElem_mem hi)⟩
  · rw [h.cellAt (i * 2) (by omega), List.getElem?_append_left (by omega)]; exact c0
  · rw [h.cellAt (i * 2 + 1) (by omega), List.getElem?_append_left (by omega)]; exact c1

theorem pairCells_len (Ps : List (Int × Int)) : (pairCells Ps).length = Ps.length * 2 := by
  induction Ps with
  | nil => rfl
  | cons p r ih => rw [show pairCells (p :: r) = .int .i64 p.1 :: .int .i64 p.2 :: pairCells r from rfl]; simp only [List.length_cons, ih]; omega

theorem pairCells_app (a b : List (Int × Int)) : pairCells (a ++ b) = pairCells a ++ pairCells b := by simp [pairCells]

theorem holdsA_src {w : World} {ao : Option Addr} {Ps : List (Int × Int)} (h : HoldsA w ao Ps) : 0 < Ps.length → ∃ ad, ao = some ad ∧ ∀ j v, (pairCells Ps)[j]? = some v → w.cell? (ad.add j) = some v := by
  intro h0
  obtain ⟨ad, rfl, _⟩ := h 0 h0
  refine ⟨_, rfl, ?_⟩
  intro j v hj
  have hlt : j < Ps.length * 2 := by rw [← pairCells_len]; exact (List.getElem?_eq_some_iff.1 hj).1
  obtain ⟨ad', e, _, c0, c1, _⟩ := h (j / 2) (by omega)
  injection e with e'
  subst e'
  obtain ⟨p0, p1⟩ := pairCells_get Ps (j / 2) (by omega)
  by_cases hp : j % 2 = 0
  · have ej : j = j / 2 * 2 := by omega
    rw [ej] at hj ⊢
    rw [p0] at hj
    injection hj with hj
    rw [← hj]
    exact c0
  · have ej : j = j / 2 * 2 + 1 := by omega
    rw [ej] at hj ⊢
    rw [p1] at hj
    injection hj with hj
    rw [← hj]
    exact c1

end Go.Proofs.Ytedbdejhpjkofaa
