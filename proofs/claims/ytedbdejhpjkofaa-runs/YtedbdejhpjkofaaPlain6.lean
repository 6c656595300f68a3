import Derived.Test.YtedbdejhpjkofaaPlain5
/- Plain functions: pairs by their keys, one of them anew (or gone). No Go, no program. -/
namespace Hd
set_option linter.unusedSimpArgs false
set_option linter.unusedVariables false

def putF (key val : Int) (a : List (Int × Int) × Bool) (p : Int × Int) : List (Int × Int) × Bool :=
  if a.2 = true then (if p.1 = key then a.1 else a.1 ++ [p], true)
  else if p.1 < key then (a.1 ++ [p], false)
  else if p.1 = key then (a.1 ++ [(key, val)], true)
  else (a.1 ++ [(key, val)] ++ [p], true)

def putL (L : List (Int × Int)) (key val : Int) (is : Bool) : List (Int × Int) :=
  if (L.foldl (putF key val) ([], !is)).2 = true then (L.foldl (putF key val) ([], !is)).1 else (L.foldl (putF key val) ([], !is)).1 ++ [(key, val)]

theorem fold_snoc (L : List (Int × Int)) (key val : Int) (a : List (Int × Int) × Bool) (p : Int × Int) : (L ++ [p]).foldl (putF key val) a = putF key val (L.foldl (putF key val) a) p := by simp

theorem fold_len (L : List (Int × Int)) (key val : Int) (a : List (Int × Int) × Bool) : (L.foldl (putF key val) a).1.length ≤ a.1.length + L.length + (if a.2 = true then 0 else if (L.foldl (putF key val) a).2 = true then 1 else 0) ∧ (a.2 = true → (L.foldl (putF key val) a).2 = true) := by
  induction L generalizing a with
  | nil => simp
  | cons p r ih =>
    rw [List.foldl_cons]
    have h := ih (putF key val a p)
    unfold putF at h ⊢
    split at h
    · rename_i h1
      rw [if_pos h1]
      refine ⟨?_, fun _ => h.2 rfl⟩
      have := h.1
      simp only [if_true, h1] at this ⊢
      split at this <;> simp at this ⊢ <;> (split <;> omega)
    · rename_i h1
      rw [if_neg h1]
      refine ⟨?_, fun x => absurd x h1⟩
      have h2 := h.1
      rw [if_neg h1]
      split at h2
      · rename_i h3
        rw [if_pos h3]
        simp at h2 ⊢
        omega
      · rename_i h3
        rw [if_neg h3]
        split at h2
        · rename_i h4
          have h5 := h.2
          rw [if_neg h3, if_pos h4] at h5
          rw [if_pos h4, if_pos (h5 rfl)]
          simp at h2 ⊢
          omega
        · rename_i h4
          have h5 := h.2
          rw [if_neg h3, if_neg h4] at h5
          rw [if_neg h4, if_pos (h5 rfl)]
          simp at h2 ⊢
          omega

end Hd
