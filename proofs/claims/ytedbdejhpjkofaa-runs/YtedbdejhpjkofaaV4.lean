import Derived.Test.YtedbdejhpjkofaaU13
namespace Go.Proofs.Ytedbdejhpjkofaa
open Go.RowKit Go.Maps
set_option linter.unusedVariables false
set_option linter.unusedSimpArgs false

def five5 : List Hd.Ins := [⟨1, 0, 0, 0, 5⟩, ⟨10, 0, 0, 0, 0⟩]
def fiveS : ByteArray := ⟨#[1, 0, 0, 0, 0, 0, 0, 0, 0, 5, 10, 0]⟩

theorem prog_five : Hd.prog fiveS.data.toList = some [0, 10] := by decide +kernel
theorem ins_five : Hd.insAt fiveS.data.toList [0, 10] = five5 := by rfl

theorem run_five : Hd.runAll (Hd.ofPairs []) five5 = (2, ⟨[5, 0, 0, 0, 0, 0, 0, 0], fun _ => none, [5], []⟩) := by
  unfold Hd.runAll five5
  simp [Hd.runS, Hd.stepS, w64_5]

theorem keys_nothing {f : Int → Option Int} {ks : List Int} (h : KeysOf f ks) (hf : ∀ k, f k = none) : ks = [] := keys_none h hf

theorem Run_five (w : World) :
    Calls Try.prog 15 #[.string fiveS, .slice none 0 0] w fun e w' => ∃ (lo : Option Addr) (lc : Nat) (told : Value), e = .returned (.tuple #[.agg #[.int .i64 2, told], .slice lo 0 lc, .int .i64 0]) ∧ w'.ownsRow w.heap.size 3 1 told 1 [.int .i64 5] ∧ Below w.heap.size w w' := by
  refine (Run_yes fiveS (by decide) none 0 [] w (fun i h => by simp at h) (by simp) List.nodup_nil _ prog_five _ rfl five5 ins_five.symm 2 _ run_five).mono ?_
  rintro e w' ⟨⟨tv, v, ks, rfl, hks, hv, htv, _, _⟩, hb⟩
  have hk : ks = [] := keys_nothing hks (fun k => rfl)
  subst hk
  obtain ⟨lo, lc, rfl⟩ := own_form hv
  exact ⟨lo, lc, tv, rfl, htv, hb⟩

end Go.Proofs.Ytedbdejhpjkofaa
