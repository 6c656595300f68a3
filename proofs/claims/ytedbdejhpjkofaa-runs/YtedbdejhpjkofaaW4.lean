import Derived.Test.YtedbdejhpjkofaaW3
namespace Go.Proofs.Ytedbdejhpjkofaa
open Go.RowKit
set_option linter.unusedVariables false

theorem ext_list (s : ByteArray) (a b : Nat) : (s.extract a b).data.toList = (s.data.toList.drop a).take (b - a) := by
  rw [ByteArray.data_extract, Array.toList_extract]

def okV (l : List UInt8) (rest : ByteArray) : Value := .tuple #[.agg (insCells (Hd.insOf l)).toArray, .string rest, .bool true]

theorem shapes (k : Nat) (h : Hd.known k = true) : (Hd.regs k = 0 ∧ Hd.more k = 0) ∨ (Hd.regs k = 1 ∧ Hd.more k = 0) ∨ (Hd.regs k = 1 ∧ Hd.more k = 8) ∨ (Hd.regs k = 2 ∧ Hd.more k = 0) ∨ (Hd.regs k = 2 ∧ Hd.more k = 1) ∨ (Hd.regs k = 3 ∧ Hd.more k = 0) := by
  have h' : 1 ≤ k ∧ k ≤ 11 := of_decide_eq_true h
  have hk : k = 1 ∨ k = 2 ∨ k = 3 ∨ k = 4 ∨ k = 5 ∨ k = 6 ∨ k = 7 ∨ k = 8 ∨ k = 9 ∨ k = 10 ∨ k = 11 := by omega
  rcases hk with rfl | rfl | rfl | rfl | rfl | rfl | rfl | rfl | rfl | rfl | rfl <;> simp [Hd.regs, Hd.more]

theorem cut_ok (s : ByteArray) (w : World) (h0 : 0 < s.size) (hs : s.size ≤ maxLen) (h : Hd.okOne s.data.toList = true) :
    Calls Try.prog 36 #[.string s] w fun e w' => e = .returned (okV s.data.toList (s.extract (Hd.size (Hd.byte s.data.toList 0)) s.size)) ∧ Below w.heap.size w w' := by
  unfold Hd.okOne at h
  simp only [Bool.and_eq_true, decide_eq_true_eq] at h
  obtain ⟨hkn, hl, hb⟩ := h
  have hll : s.data.toList.length = s.size := by simp
  rw [hll] at hl
  have e0 := Hd.byte_get s 0 h0
  have hop := operands_any (Hd.byte s.data.toList 0)
  rw [hkn] at hop
  unfold okV insCells Hd.insOf
  generalize hL : s.data.toList = L at *
  generalize hK : Hd.byte L 0 = k at *
  have hsz : Hd.size k = 1 + Hd.regs k + Hd.more k := rfl
  rcases shapes k hkn with ⟨hr, hm⟩ | ⟨hr, hm⟩ | ⟨hr, hm⟩ | ⟨hr, hm⟩ | ⟨hr, hm⟩ | ⟨hr, hm⟩
  all_goals
    rw [hr, hm] at hop
    rw [hr, hm] at hsz
    rw [hsz] at hl ⊢
    rw [hr] at hb
    simp only [hr, hm, List.take_zero, Hd.numU_nil]
    simp only [Nat.lt_irrefl, if_true, if_false, Nat.zero_lt_one, Nat.reduceLT, Nat.reduceAdd, Nat.not_lt_zero] at *
  · exact cut_core00 s w k _ h0 hs e0.symm hl hop (fun w => number_any _ w (by decide))
  · have b1 := hb 0 (by omega)
    have e1 := Hd.byte_get s 1 (by omega)
    rw [hL] at e1
    simp only [Nat.add_zero] at b1
    rw [e1] at b1 ⊢
    exact cut_core10 s w k _ h0 hs e0.symm hl hop (fun w => number_any _ w (by decide)) b1
  · have b1 := hb 0 (by omega)
    have e1 := Hd.byte_get s 1 (by omega)
    rw [hL] at e1
    simp only [Nat.add_zero] at b1
    rw [e1] at b1 ⊢
    have hn := fun w => number_any (s.extract 2 10) w (by simp; omega)
    rw [ext_list, hL] at hn
    exact cut_core18 s w k _ h0 hs e0.symm hl hop hn b1
  · have b1 := hb 0 (by omega)
    have b2 := hb 1 (by omega)
    have e1 := Hd.byte_get s 1 (by omega)
    have e2 := Hd.byte_get s 2 (by omega)
    rw [hL] at e1 e2
    simp only [Nat.add_zero, Nat.reduceAdd] at b1 b2
    rw [e1] at b1 ⊢
    rw [e2] at b2 ⊢
    exact cut_core20 s w k _ h0 hs e0.symm hl hop (fun w => number_any _ w (by decide)) b1 b2
  · have b1 := hb 0 (by omega)
    have b2 := hb 1 (by omega)
    have e1 := Hd.byte_get s 1 (by omega)
    have e2 := Hd.byte_get s 2 (by omega)
    rw [hL] at e1 e2
    simp only [Nat.add_zero, Nat.reduceAdd] at b1 b2
    rw [e1] at b1 ⊢
    rw [e2] at b2 ⊢
    have hn := fun w => number_any (s.extract 3 4) w (by simp; omega)
    rw [ext_list, hL] at hn
    exact cut_core21 s w k _ h0 hs e0.symm hl hop hn b1 b2
  · have b1 := hb 0 (by omega)
    have b2 := hb 1 (by omega)
    have b3 := hb 2 (by omega)
    have e1 := Hd.byte_get s 1 (by omega)
    have e2 := Hd.byte_get s 2 (by omega)
    have e3 := Hd.byte_get s 3 (by omega)
    rw [hL] at e1 e2 e3
    simp only [Nat.add_zero, Nat.reduceAdd] at b1 b2 b3
    rw [e1] at b1 ⊢
    rw [e2] at b2 ⊢
    rw [e3] at b3 ⊢
    exact cut_core30 s w k _ h0 hs e0.symm hl hop (fun w => number_any _ w (by decide)) b1 b2 b3

theorem cut_no (s : ByteArray) (w : World) (h0 : 0 < s.size) (hs : s.size ≤ maxLen) (h : Hd.okOne s.data.toList = false) :
    Calls Try.prog 36 #[.string s] w fun e w' => e = .returned cutNo ∧ Below w.heap.size w w' := by
  have e0 := Hd.byte_get s 0 h0
  cases hkn : Hd.known (Hd.byte s.data.toList 0) with
  | false => exact cut_unknown s w _ h0 hs e0.symm hkn
  | true =>
    by_cases hl : s.size < Hd.size (Hd.byte s.data.toList 0)
    · exact cut_short s w _ h0 hs e0.symm hkn hl
    · have hl' : Hd.size (Hd.byte s.data.toList 0) ≤ s.size := by omega
      have hsz : Hd.size (Hd.byte s.data.toList 0) = 1 + Hd.regs (Hd.byte s.data.toList 0) + Hd.more (Hd.byte s.data.toList 0) := rfl
      have hll : s.data.toList.length = s.size := by simp
      have hr := Hd.regs_le (Hd.byte s.data.toList 0)
      unfold Hd.okOne at h
      rw [hkn, hll, decide_eq_true hl'] at h
      simp only [Bool.true_and, decide_eq_false_iff_not] at h
      by_cases hb0 : 0 < Hd.regs (Hd.byte s.data.toList 0) ∧ 8 ≤ Hd.byte s.data.toList 1
      · have e1 := Hd.byte_get s 1 (by omega)
        rw [e1] at hb0
        exact cut_bad0 s w _ h0 hs e0.symm hkn hl' hb0.1 _ hb0.2
      · by_cases hb1 : 1 < Hd.regs (Hd.byte s.data.toList 0) ∧ 8 ≤ Hd.byte s.data.toList 2
        · have e1 := Hd.byte_get s 1 (by omega)
          have e2 := Hd.byte_get s 2 (by omega)
          have ha : Hd.byte s.data.toList 1 < 8 := by omega
          rw [e1] at ha
          rw [e2] at hb1
          exact cut_bad1 s w _ h0 hs e0.symm hkn hl' hb1.1 _ ha hb1.2
        · by_cases hb2 : 2 < Hd.regs (Hd.byte s.data.toList 0) ∧ 8 ≤ Hd.byte s.data.toList 3
          · have e1 := Hd.byte_get s 1 (by omega)
            have e2 := Hd.byte_get s 2 (by omega)
            have e3 := Hd.byte_get s 3 (by omega)
            have ha : Hd.byte s.data.toList 1 < 8 := by omega
            have hc : Hd.byte s.data.toList 2 < 8 := by omega
            rw [e1] at ha
            rw [e2] at hc
            rw [e3] at hb2
            exact cut_bad2 s w _ h0 hs e0.symm hkn hl' hb2.1 _ ha hc hb2.2
          · exfalso
            apply h
            intro i hi
            have : i = 0 ∨ i = 1 ∨ i = 2 := by omega
            rcases this with rfl | rfl | rfl <;> simp only [Nat.add_zero, Nat.reduceAdd] <;> omega

end Go.Proofs.Ytedbdejhpjkofaa
