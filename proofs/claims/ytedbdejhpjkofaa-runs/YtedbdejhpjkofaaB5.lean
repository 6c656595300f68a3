import Derived.Test.YtedbdejhpjkofaaG2
import Derived.Test.YtedbdejhpjkofaaG3
namespace Go.Proofs.Ytedbdejhpjkofaa
open Go.RowKit Go.Maps
set_option linter.unusedVariables false
set_option linter.unusedSimpArgs false

/-- what a Run answers: a state and an error, what was told, and a list of which Q holds -/
def Ans (Q : List (Int × Int) → Prop) (w : World) (st er : Int) (T : List Int) (e : Ending) (w' : World) : Prop :=
  ∃ (to lo : Option Addr) (tc lc : Nat) (Lp : List (Int × Int)), e = .returned (.tuple #[.agg #[.int .i64 st, .slice to T.length tc], .slice lo Lp.length lc, .int .i64 er]) ∧ Q Lp ∧
    w'.ownsRow w.heap.size 3 1 (.slice to T.length tc) T.length (T.map (Value.int .i64)) ∧ w'.ownsRow w.heap.size 44 2 (.slice lo Lp.length lc) Lp.length (pairCells Lp) ∧ Below w.heap.size w w'

theorem wf_keys {w : World} {ao : Option Addr} {Ps : List (Int × Int)} (h : HoldsA w ao Ps) : (∀ k v, Hd.ofPairs Ps k = some v → wf k ∧ wf v) := by
  intro k v hk
  unfold Hd.ofPairs at hk
  rw [Option.map_eq_some_iff] at hk
  obtain ⟨p, hp, rfl⟩ := hk
  have hm := List.mem_of_find?_eq_some hp
  have he := List.find?_some hp
  obtain ⟨i, hi, rfl⟩ := List.getElem_of_mem hm
  obtain ⟨g, _, _, _, _, h1, h2⟩ := h i hi
  have : (Ps[i]).1 = k := by simpa using he
  exact ⟨this ▸ h1, h2⟩

theorem prog_list {Ps : List (Int × Int)} (hw : ∀ k v, Hd.ofPairs Ps k = some v → wf k ∧ wf v) {Is : List Hd.Ins} {ks : List Int} (hk : KeysOf (Hd.lookS (Hd.ofPairs Ps) (Hd.runAll (Hd.ofPairs Ps) Is).2.W) ks) (L : List (Int × Int)) (hu : Hd.up L) (hf : Hd.ofPairs L = Hd.lookS (Hd.ofPairs Ps) (Hd.runAll (Hd.ofPairs Ps) Is).2.W) : L = standing (Hd.lookS (Hd.ofPairs Ps) (Hd.runAll (Hd.ofPairs Ps) Is).2.W) ks := by
  have hwin := Hd.runAll_within (P := wf) (S := Hd.ofPairs Ps) wf_z wf_o wf_w64 (fun k v h => (hw k v h).2) Is
  have hkk : ∀ k, (Hd.lookS (Hd.ofPairs Ps) (Hd.runAll (Hd.ofPairs Ps) Is).2.W k).isSome = true → wf k := by
    intro k h
    unfold Hd.lookS at h
    cases hW : (Hd.runAll (Hd.ofPairs Ps) Is).2.W k with
    | some c => exact (hwin.W k c hW).1
    | none =>
      rw [hW] at h
      cases hS : Hd.ofPairs Ps k with
      | none => simp only [hS] at h; cases h
      | some v => exact (hw k v hS).1
  have h := Hd.list_of_keys hu hk.up (fun k => by
    rw [hf, hk.mem k]
    exact ⟨fun x => x.2, fun x => ⟨hkk k x, x⟩⟩)
  rw [hf] at h
  exact h.symm

theorem runS_told (S : Int → Option Int) (Is : List Hd.Ins) : ∀ (f p : Nat) (s : Hd.St), (Hd.runS S Is f p s).2.T.length ≤ s.T.length + f := by
  intro f
  induction f with
  | zero => intro p s; exact Nat.le_refl _
  | succ f ih =>
    intro p s
    unfold Hd.runS
    split
    · split
      · simp
      split
      · split
        · have := ih (p + (Is.getD p ⟨0, 0, 0, 0, 0⟩).num + 1) s; omega
        · have := ih (p + 1) s; omega
      · have h1 := ih (p + 1) (Hd.stepS S (Is.getD p ⟨0, 0, 0, 0, 0⟩) s)
        have h2 := Hd.step_told S (Is.getD p ⟨0, 0, 0, 0, 0⟩) s
        omega
    · simp

theorem runAll_told (S : Int → Option Int) (Is : List Hd.Ins) (h : Is.length ≤ 256) : (Hd.runAll S Is).2.T.length ≤ 256 := by
  have := runS_told S Is Is.length 0 ⟨[0, 0, 0, 0, 0, 0, 0, 0], fun _ => none, [], []⟩
  unfold Hd.runAll
  simp only [List.length_nil] at this
  omega

/-- the program's Run and the document's own answer alike -/
theorem both_runs (s : ByteArray) (hs : s.size ≤ 140737488351232) (Ps : List (Int × Int)) (hn : Ps.length ≤ 8796093021952) (hw : ∀ k v, Hd.ofPairs Ps k = some v → wf k ∧ wf v) :
    ∃ (st er : Int) (T : List Int) (P Q : List (Int × Int) → Prop), (∀ a b, P a → Q b → b = a) ∧ T.length ≤ 256 ∧ (∀ a, P a → a.length ≤ Ps.length + 256) ∧
      (∀ ao cap w, HoldsA w ao Ps → Calls Try.prog 15 #[.string s, .slice ao Ps.length cap] w fun e w' => Ans P w st er T e w') ∧
      (∀ ao cap w, HoldsA w ao Ps → Calls Try.prog 19 #[.string s, .slice ao Ps.length cap] w fun e w' => Ans Q w st er T e w') := by
  have hs2 : s.size ≤ maxLen := by unfold maxLen; omega
  by_cases ho : Hd.once Ps
  · cases hp : Hd.prog s.data.toList with
    | none =>
      refine ⟨0, 2, [], (· = []), (· = []), fun a b h1 h2 => by rw [h1, h2], by simp, fun a h => by simp [h], ?_, ?_⟩
      · intro ao cap w hP
        refine (RunA_no s hs2 ao cap Ps w hP (by omega) ho hp).mono ?_
        rintro e w' ⟨rfl, hb⟩
        exact ⟨none, none, 0, 0, [], rfl, rfl, World.ownsRow_nil _ _ _ _, World.ownsRow_nil _ _ _ _, hb⟩
      · intro ao cap w hP
        refine (refRunA_any s hs ao cap Ps w hP (by omega)).mono ?_
        rintro e w' h
        exact ⟨none, none, 0, 0, [], h.no ho hp, rfl, World.ownsRow_nil _ _ _ _, World.ownsRow_nil _ _ _ _, h.below⟩
    | some ps =>
      refine ⟨(Hd.runAll (Hd.ofPairs Ps) (Hd.insAt s.data.toList ps)).1, 0, (Hd.runAll (Hd.ofPairs Ps) (Hd.insAt s.data.toList ps)).2.T,
        (fun a => a.length ≤ Ps.length + 256 ∧ ∀ L, Hd.up L → Hd.ofPairs L = Hd.lookS (Hd.ofPairs Ps) (Hd.runAll (Hd.ofPairs Ps) (Hd.insAt s.data.toList ps)).2.W → L = a),
        (fun L => Hd.up L ∧ Hd.ofPairs L = Hd.lookS (Hd.ofPairs Ps) (Hd.runAll (Hd.ofPairs Ps) (Hd.insAt s.data.toList ps)).2.W), fun a b h1 h2 => h1.2 b h2.1 h2.2, ?_, fun a h => h.1, ?_, ?_⟩
      · exact runAll_told _ _ (good_of_prog hp).few
      · intro ao cap w hP
        refine (RunA_yes s hs2 ao cap Ps w hP (by omega) ho ps hp _ rfl _ rfl (Hd.runAll (Hd.ofPairs Ps) (Hd.insAt s.data.toList ps)).1 (Hd.runAll (Hd.ofPairs Ps) (Hd.insAt s.data.toList ps)).2 rfl).mono ?_
        rintro e w' ⟨⟨tv, v, ks, rfl, hks, hv, htv, hl, _⟩, hb⟩
        obtain ⟨to, tc, rfl⟩ := own_form htv
        obtain ⟨lo, lc, rfl⟩ := own_form hv
        have hlen : (standing (Hd.lookS (Hd.ofPairs Ps) (Hd.runAll (Hd.ofPairs Ps) (Hd.insAt s.data.toList ps)).2.W) ks).length = ks.length := by simp [standing]
        refine ⟨to, lo, tc, lc, standing (Hd.lookS (Hd.ofPairs Ps) (Hd.runAll (Hd.ofPairs Ps) (Hd.insAt s.data.toList ps)).2.W) ks, by rw [hlen], ⟨by omega, fun L hu hf => prog_list hw hks L hu hf⟩, htv, by rw [hlen]; exact hv, hb⟩
      · intro ao cap w hP
        refine (refRunA_any s hs ao cap Ps w hP (by omega)).mono ?_
        rintro e w' h
        obtain ⟨tv, v, L, he, hu, hf, hv, htv, _, _⟩ := h.yes ho ps hp
        obtain ⟨to, tc, rfl⟩ := own_form htv
        obtain ⟨lo, lc, rfl⟩ := own_form hv
        exact ⟨to, lo, tc, lc, L, he, ⟨hu, hf⟩, htv, hv, h.below⟩
  · refine ⟨0, 1, [], (· = []), (· = []), fun a b h1 h2 => by rw [h1, h2], by simp, fun a h => by simp [h], ?_, ?_⟩
    · intro ao cap w hP
      refine (RunA_twice s ao cap Ps w hP (by omega) ho).mono ?_
      rintro e w' ⟨rfl, hb⟩
      exact ⟨none, none, 0, 0, [], rfl, rfl, World.ownsRow_nil _ _ _ _, World.ownsRow_nil _ _ _ _, hb⟩
    · intro ao cap w hP
      refine (refRunA_any s hs ao cap Ps w hP (by omega)).mono ?_
      rintro e w' h
      exact ⟨none, none, 0, 0, [], h.twice ho, rfl, World.ownsRow_nil _ _ _ _, World.ownsRow_nil _ _ _ _, h.below⟩

end Go.Proofs.Ytedbdejhpjkofaa
