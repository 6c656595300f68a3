import Derived.Test.YtedbdejhpjkofaaV4
namespace Go.Proofs.Ytedbdejhpjkofaa
open Go.RowKit Go.Maps
set_option linter.unusedVariables false
set_option linter.unusedSimpArgs false

def twelve : ByteArray := ⟨#[12]⟩
theorem chk_five : chk fiveS.data.toList = 0 := by unfold chk; rw [prog_five]; rfl
theorem prog_twelve : Hd.prog twelve.data.toList = none := by decide +kernel
theorem chk_twelve : chk twelve.data.toList = 2 := by unfold chk; rw [prog_twelve]; rfl

theorem check_five (w : World) : Calls Try.prog 7 #[.string ⟨#[1, 0, 0, 0, 0, 0, 0, 0, 0, 5, 10, 0]⟩] w fun e w' => e = .returned (.int .i64 0) ∧ Below w.heap.size w w' := by
  have h := check_any fiveS w (by decide)
  rw [chk_five] at h
  exact h
theorem check_twelve (w : World) : Calls Try.prog 7 #[.string ⟨#[12]⟩] w fun e w' => e = .returned (.int .i64 2) ∧ Below w.heap.size w w' := by
  have h := check_any twelve w (by decide)
  rw [chk_twelve] at h
  exact h
theorem Run_five' (w : World) :
    Calls Try.prog 15 #[.string ⟨#[1, 0, 0, 0, 0, 0, 0, 0, 0, 5, 10, 0]⟩, .slice none 0 0] w fun e w' => ∃ (lo : Option Addr) (lc gt ct : Nat), e = .returned (.tuple #[.agg #[.int .i64 2, .slice (some ⟨gt, 0, none⟩) 1 ct], .slice lo 0 lc, .int .i64 0]) ∧ w'.cell? ⟨gt, 0, none⟩ = some (.int .i64 5) ∧ gt < w'.heap.size ∧ Below w.heap.size w w' := by
  refine (Run_five w).mono ?_
  rintro e w' ⟨lo, lc, told, rfl, hown, hb⟩
  rcases hown.2 with ⟨hv, hz⟩ | ⟨gt, ct, cur, rfl, hbase, hgb, h1, h2, h3, h4⟩
  · cases hz
  · refine ⟨lo, lc, gt, ct, rfl, ?_, (Array.getElem?_eq_some_iff.1 hgb).1, hb⟩
    have hc := hown.cells (g := gt) rfl 0 (.int .i64 5) rfl
    have hadd : (⟨gt, 0, none⟩ : Addr).add 0 = ⟨gt, 0, none⟩ := by unfold Addr.add; split <;> simp_all
    rwa [hadd] at hc

set_option maxRecDepth 100000 in
set_option maxHeartbeats 1000000 in
theorem shown_any (w : World) : Calls Try.prog 6 #[] w fun e w' => e = .returned (.bool true) ∧ Below w.heap.size w w' := by
  go_enter Try.func6, Try.ntmps6
  go_wp2_with fail
  refine (check_five _).mono ?_
  rintro e w1 ⟨rfl, hb1⟩
  go_wp2_with fail
  refine (check_twelve _).mono ?_
  rintro e w2 ⟨rfl, hb2⟩
  go_wp2_with fail
  refine (Run_five' _).mono ?_
  rintro e w3 ⟨lo, lc, gt, ct, rfl, hc, hgt, hb3⟩
  have hbb : Below w.heap.size w w3 := (hb1.trans (hb2.mono hb1.size)).trans (hb3.mono (Nat.le_trans hb1.size hb2.size))
  have HB : Hid (Below w.heap.size w w3) := hbb
  have hne : gt ≠ w3.heap.size := by omega
  clear hb1 hb2 hb3 hbb
  go_wp2_with (go_at_call 9; refine (num_any _ _).mono ?_; rintro e w' ⟨rfl, rfl⟩)
  go_ret
  exact ⟨rfl, HB.out.alloc HB.out.size _⟩

set_option maxHeartbeats 1000000 in
theorem checks_any (s : ByteArray) (w : World) (hs : s.size ≤ 140737488351232) : Calls Try.prog 3 #[.string s] w fun e w' => e = .returned (.bool true) ∧ Below w.heap.size w w' := by
  have hc1 := fun w => check_any s w (by unfold maxLen; omega)
  have hc2 := fun w => refCheck_any s w hs
  generalize chk s.data.toList = c at *
  go_enter Try.func3, Try.ntmps3
  go_wp2_with fail
  refine (shown_any _).mono ?_
  rintro e w1 ⟨rfl, hb1⟩
  go_wp2_with fail
  refine (hc1 _).mono ?_
  rintro e w2 ⟨rfl, hb2⟩
  go_wp2_with fail
  refine (hc2 _).mono ?_
  rintro e w3 ⟨rfl, hb3⟩
  have hbb : Below w.heap.size w w3 := (hb1.trans (hb2.mono hb1.size)).trans (hb3.mono (Nat.le_trans hb1.size hb2.size))
  clear hb1 hb2 hb3 hc1 hc2
  go_wp2_with (go_at_call 9; refine (num_any _ _).mono ?_; rintro e w' ⟨rfl, rfl⟩)
  go_ret
  exact ⟨by simp, hbb⟩

end Go.Proofs.Ytedbdejhpjkofaa
