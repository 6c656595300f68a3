import Derived.Test.YtedbdejhpjkofaaU8
namespace Go.Proofs.Ytedbdejhpjkofaa
open Go.RowKit Go.Maps
set_option linter.unusedVariables false
set_option linter.unusedSimpArgs false

theorem begs_each (L : List UInt8) : ∀ (f p : Nat) (qs : List Nat), Hd.begs f p (L.drop p) = some qs → qs.length ≤ f ∧ ∀ q, q ∈ qs → Hd.okOne (L.drop q) = true := by
  intro f
  induction f with
  | zero =>
    intro p qs h
    cases hl : L.drop p with
    | nil => rw [hl, Hd.begs_nil] at h; cases h; simp
    | cons x r => rw [hl] at h; cases h
  | succ f ih =>
    intro p qs h
    cases hl : L.drop p with
    | nil => rw [hl, Hd.begs_nil] at h; cases h; simp
    | cons x r =>
      have hne : L.drop p ≠ [] := by rw [hl]; simp
      cases hk : Hd.okOne (L.drop p) with
      | false => rw [Hd.begs_no _ _ _ hne hk] at h; cases h
      | true =>
        rw [Hd.begs_ok _ _ _ hne hk, List.drop_drop] at h
        cases hb : Hd.begs f (p + Hd.size (Hd.byte (L.drop p) 0)) (L.drop (p + Hd.size (Hd.byte (L.drop p) 0))) with
        | none => rw [hb] at h; cases h
        | some qs' =>
          rw [hb] at h
          simp at h
          subst h
          obtain ⟨h1, h2⟩ := ih _ _ hb
          refine ⟨by simp; omega, ?_⟩
          intro q hq
          rcases List.mem_cons.1 hq with rfl | hq
          · exact hk
          · exact h2 q hq

theorem good_of_prog {L : List UInt8} {ps : List Nat} (h : Hd.prog L = some ps) : Good (Hd.insAt L ps) := by
  unfold Hd.prog at h
  cases hb : Hd.begs 256 0 L with
  | none => rw [hb] at h; cases h
  | some qs =>
    rw [hb] at h
    simp only at h
    split at h
    · rename_i hw
      injection h with h
      subst h
      have hb2 : Hd.begs 256 0 (L.drop 0) = some qs := hb
      obtain ⟨h1, h2⟩ := begs_each L 256 0 qs hb2
      have hl := insAt_len L qs
      have key : ∀ i (hi : i < (Hd.insAt L qs).length), ∃ q, (Hd.insAt L qs)[i] = Hd.insOf (L.drop q) ∧ Hd.okOne (L.drop q) = true := by
        intro i hi
        have hi2 : i < qs.length := by omega
        exact ⟨qs[i], insAt_get L qs i hi2 hi, h2 _ (List.getElem_mem hi2)⟩
      have ok3 : ∀ l, Hd.okOne l = true → Hd.known (Hd.byte l 0) = true ∧ ∀ i, i < Hd.regs (Hd.byte l 0) → Hd.byte l (1 + i) < 8 := by
        intro l hl
        unfold Hd.okOne at hl
        simp only [Bool.and_eq_true, decide_eq_true_eq] at hl
        exact ⟨hl.1, hl.2.2⟩
      refine ⟨by omega, ?_, ?_, ?_⟩
      · intro i hi
        obtain ⟨q, e, hok⟩ := key i hi
        have := (ok3 _ hok).2
        rw [e]
        unfold Hd.insOf
        refine ⟨?_, ?_, ?_⟩
        · show (if 0 < Hd.regs (Hd.byte (L.drop q) 0) then Hd.byte (L.drop q) 1 else 0) < 8
          split
          · exact this 0 (by assumption)
          · omega
        · show (if 1 < Hd.regs (Hd.byte (L.drop q) 0) then Hd.byte (L.drop q) 2 else 0) < 8
          split
          · exact this 1 (by assumption)
          · omega
        · show (if 2 < Hd.regs (Hd.byte (L.drop q) 0) then Hd.byte (L.drop q) 3 else 0) < 8
          split
          · exact this 2 (by assumption)
          · omega
      · intro i hi
        obtain ⟨q, e, hok⟩ := key i hi
        rw [e]
        exact (ok3 _ hok).1
      · intro i hi hk
        unfold Hd.within at hw
        have hw2 := of_decide_eq_true hw
        have e : (Hd.insAt L qs).getD i ⟨0, 0, 0, 0, 0⟩ = (Hd.insAt L qs)[i] := by rw [List.getD_eq_getElem?_getD, List.getElem?_eq_getElem hi]; rfl
        have := hw2 i hi
        rw [e] at this
        exact this hk
    · cases h

set_option maxRecDepth 100000 in
set_option maxHeartbeats 1000000 in
theorem run_nil (w : World) (bm bs bw nS : Nat) (S : Int → Option Int) (hM : Mach w w.heap.size bm bs bw nS 0 (.slice none 0 0) (.slice none 0 0) S ⟨[0, 0, 0, 0, 0, 0, 0, 0], fun _ => none, [], []⟩) :
    Calls Try.prog 33 #[.pointer (some ⟨bm, 0, none⟩), .slice none 0 0] w fun e w' => RunEnd w bm bs bw nS S [] e w' := by
  have HM : Hid (Mach w w.heap.size bm bs bw nS 0 (.slice none 0 0) (.slice none 0 0) S ⟨[0, 0, 0, 0, 0, 0, 0, 0], fun _ => none, [], []⟩) := hM
  clear hM
  go_enter Try.func33, Try.ntmps33
  go_wp2
  refine wp_loop_rounds 1 ?_
  rw [rounds_succ]
  go_wp2
  go_ret
  exact ⟨rfl, _, _, 0, by omega, HM.out, Nat.zero_le _, Nat.zero_le _, Keeps.refl _ _⟩

/-- run, at the row that decode made -/
theorem run_own (w : World) (bm bs bw nS base cap : Nat) (ao : Option Addr) (S : Int → Option Int) (Is : List Hd.Ins) (hG : Good Is) (hown : w.ownsRow base 92 5 (.slice ao Is.length cap) Is.length (Is.flatMap insCells)) (hgw : ∀ g, ao = some ⟨g, 0, none⟩ → g ≠ bm ∧ g ≠ bw)
    (hM : Mach w w.heap.size bm bs bw nS 0 (.slice none 0 0) (.slice none 0 0) S ⟨[0, 0, 0, 0, 0, 0, 0, 0], fun _ => none, [], []⟩) :
    Calls Try.prog 33 #[.pointer (some ⟨bm, 0, none⟩), .slice ao Is.length cap] w fun e w' => RunEnd w bm bs bw nS S Is e w' := by
  rcases hown.2 with ⟨hv, hz⟩ | ⟨g, cap', cur, hv, hbase, hg, _⟩
  · have hnil : Is = [] := List.eq_nil_of_length_eq_zero hz
    subst hnil
    simp only [List.length_nil] at hv ⊢
    rw [hv]
    exact run_nil w bm bs bw nS S hM
  · simp only [Value.slice.injEq] at hv
    obtain ⟨rfl, _, rfl⟩ := hv
    obtain ⟨h1, h2⟩ := hgw g rfl
    exact run_any w bm bs bw nS g cap S Is hG (Array.getElem?_eq_some_iff.1 hg).1 h1 h2 (holds_of_own hown) hM

end Go.Proofs.Ytedbdejhpjkofaa
