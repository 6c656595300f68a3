import Derived.Test.YtedbdejhpjkofaaW4
namespace Go.Proofs.Ytedbdejhpjkofaa
open Go.RowKit
set_option linter.unusedVariables false

/-- the instructions lie in block g, one behind the other -/
def HoldsI (w : World) (g : Nat) (Is : List Hd.Ins) : Prop :=
  ∀ i (h : i < Is.length), w.cell? ⟨g, i * 5, none⟩ = some (.int .u8 (Is[i]).kind) ∧ w.cell? ⟨g, i * 5 + 1, none⟩ = some (.int .u8 (Is[i]).a) ∧ w.cell? ⟨g, i * 5 + 2, none⟩ = some (.int .u8 (Is[i]).b) ∧
    w.cell? ⟨g, i * 5 + 3, none⟩ = some (.int .u8 (Is[i]).c) ∧ w.cell? ⟨g, i * 5 + 4, none⟩ = some (.int .i64 (wrap64 (Is[i]).num))

theorem HoldsI.below {w w' : World} {g B : Nat} {Is : List Hd.Ins} (h : HoldsI w g Is) (hb : Below B w w') (hg : g < B) : HoldsI w' g Is := by
  intro i hi
  obtain ⟨c0, c1, c2, c3, c4⟩ := h i hi
  exact ⟨(hb.cell (p := ⟨g, i * 5, none⟩) hg).trans c0, (hb.cell (p := ⟨g, i * 5 + 1, none⟩) hg).trans c1, (hb.cell (p := ⟨g, i * 5 + 2, none⟩) hg).trans c2, (hb.cell (p := ⟨g, i * 5 + 3, none⟩) hg).trans c3, (hb.cell (p := ⟨g, i * 5 + 4, none⟩) hg).trans c4⟩

theorem within_yes (Is : List Hd.Ins) (h : ∀ i (h : i < Is.length), (Is[i]).kind = 9 → (Is[i]).num + i + 1 ≤ Is.length) : Hd.within Is = true := by
  unfold Hd.within
  refine decide_eq_true fun i hi hk => ?_
  have e : Is.getD i ⟨0, 0, 0, 0, 0⟩ = Is[i] := by rw [List.getD_eq_getElem?_getD, List.getElem?_eq_getElem hi]; rfl
  rw [e] at hk ⊢
  exact h i hi hk

theorem within_not (Is : List Hd.Ins) (i : Nat) (hi : i < Is.length) (hk : (Is[i]).kind = 9) (hn : Is.length < (Is[i]).num + i + 1) : Hd.within Is = false := by
  unfold Hd.within
  refine decide_eq_false fun h => ?_
  have e : Is.getD i ⟨0, 0, 0, 0, 0⟩ = Is[i] := by rw [List.getD_eq_getElem?_getD, List.getElem?_eq_getElem hi]; rfl
  have := h i hi
  rw [e] at this
  have := this hk
  omega

theorem wrap_small (n : Nat) (h : n < 256) : wrap64 (n : Int) = n := by unfold wrap64; omega

set_option maxRecDepth 100000 in
set_option maxHeartbeats 1000000 in
theorem within_row (g cap : Nat) (Is : List Hd.Ins) (w : World) (hg : g < w.heap.size) (hH : HoldsI w g Is) (hn : Is.length ≤ 256) (hsm : ∀ i (h : i < Is.length), (Is[i]).kind = 9 → (Is[i]).num < 256) :
    Calls Try.prog 37 #[.slice (some ⟨g, 0, none⟩) Is.length cap] w fun e w' => e = .returned (.bool (Hd.within Is)) ∧ Below w.heap.size w w' := by
  go_enter Try.func37, Try.ntmps37
  go_wp2
  go_loopw [8] (fun j wr => ∃ k : Nat, k ≤ Is.length ∧ j = .int .i64 k ∧ (∀ i (h : i < Is.length), i < k → (Is[i]).kind = 9 → (Is[i]).num + i + 1 ≤ Is.length) ∧ Below w.heap.size w wr) (fun j _ => Is.length - (intOf j).toNat)
  case atStart => exact ⟨0, Nat.zero_le _, rfl, fun i _ h => absurd h (Nat.not_lt_zero _), Below.refl _ _⟩
  case round =>
    obtain ⟨k, hk, rfl, hall, hbel⟩ := hrel
    by_cases hlt : k < Is.length
    · obtain ⟨c0, c1, c2, c3, c4⟩ := hH k hlt
      have d0 := (hbel.cell (p := ⟨g, k * 5, none⟩) hg).trans c0
      have d1 := (hbel.cell (p := ⟨g, k * 5 + 1, none⟩) hg).trans c1
      have d2 := (hbel.cell (p := ⟨g, k * 5 + 2, none⟩) hg).trans c2
      have d3 := (hbel.cell (p := ⟨g, k * 5 + 3, none⟩) hg).trans c3
      have d4 := (hbel.cell (p := ⟨g, k * 5 + 4, none⟩) hg).trans c4
      have hs1 := hsm k hlt
      have hno := within_not Is k hlt
      have Hall : Hid (∀ i (h : i < Is.length), i < k → (Is[i]).kind = 9 → (Is[i]).num + i + 1 ≤ Is.length) := hall
      have Hno : Hid ((Is[k]).kind = 9 → Is.length < (Is[k]).num + k + 1 → Hd.within Is = false) := hno
      clear c0 c1 c2 c3 c4 hall hsm hH hno
      generalize hI : Is[k] = I at *
      have HI : Hid (Is[k] = I) := hI
      clear hI
      have hsz := hbel.size
      by_cases h9 : I.kind = 9
      · have b9 : ((I.kind : Int) == 9) = true := by simp; omega
        have hnum := hs1 h9
        have hw := wrap_small _ hnum
        clear hs1
        by_cases hin : I.num + k + 1 ≤ Is.length
        · have HW : Hid (wrap64 (I.num : Int) = I.num) := hw
          rw [hw] at d4
          clear hw
          go_wp2
          go_roundw
          case rel =>
            refine ⟨k + 1, by omega, by go_num, ?_, hbel.alloc hsz _⟩
            intro i hi hik hik9
            by_cases e : i = k
            · subst e; rw [HI.out]; exact hin
            · exact Hall.out i hi (by omega) hik9
          case measure => simp [intOf]; omega
        · rw [hw] at d4
          clear hw
          have hf := Hno.out h9 (by omega)
          have HF : Hid (Hd.within Is = false) := hf
          clear hf
          go_wp2
          go_ret
          rw [HF.out]
          exact ⟨rfl, hbel.alloc hsz _⟩
      · have b9 : ((I.kind : Int) == 9) = false := by simp; omega
        clear hs1
        go_wp2
        go_roundw
        case rel =>
          refine ⟨k + 1, by omega, by go_num, ?_, hbel.alloc hsz _⟩
          intro i hi hik hik9
          by_cases e : i = k
          · subst e; rw [HI.out] at hik9; exact absurd hik9 h9
          · exact Hall.out i hi (by omega) hik9
        case measure => simp [intOf]; omega
    · have hf := within_yes Is (fun i hi hk9 => hall i hi (by omega) hk9)
      have HF : Hid (Hd.within Is = true) := hf
      clear hf hall hsm hH
      go_wp2
      go_ret
      rw [HF.out]
      exact ⟨rfl, hbel⟩

set_option maxRecDepth 100000 in
set_option maxHeartbeats 1000000 in
theorem within_nil (w : World) :
    Calls Try.prog 37 #[.slice none 0 0] w fun e w' => e = .returned (.bool true) ∧ Below w.heap.size w w' := by
  go_enter Try.func37, Try.ntmps37
  go_wp2
  refine wp_loop_rounds 1 ?_
  rw [rounds_succ]
  go_wp2
  go_ret
  exact ⟨rfl, Below.refl _ _⟩

end Go.Proofs.Ytedbdejhpjkofaa
