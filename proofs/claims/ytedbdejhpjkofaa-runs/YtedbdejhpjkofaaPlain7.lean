import Derived.Test.YtedbdejhpjkofaaPlain6
/- Plain functions: marks, and what a procedure sees by them. No Go, no program. -/
namespace Hd
set_option linter.unusedSimpArgs false
set_option linter.unusedVariables false

/-- what was written under a key, and does something stand there then -/
structure Mark where
  key : Int
  val : Int
  is : Bool

/-- the last mark of a key -/
def lastM : List Mark → Int → Option Mark
  | [], _ => none
  | m :: r, k => match lastM r k with
    | some x => some x
    | none => if m.key = k then some m else none

theorem lastM_snoc (ms : List Mark) (m : Mark) (k : Int) : lastM (ms ++ [m]) k = if m.key = k then some m else lastM ms k := by
  induction ms with
  | nil => simp [lastM]
  | cons x r ih =>
    rw [List.cons_append]
    unfold lastM
    rw [ih]
    by_cases h : m.key = k
    · simp [h]
    · simp [h]

/-- a mark that tells of nothing has no value -/
def plainM (ms : List Mark) : Prop := ∀ m ∈ ms, m.is = false → m.val = 0

/-- what was written -/
def marksW (ms : List Mark) : Int → Option (Option Int) := fun k => (lastM ms k).map (fun m => if m.is then some m.val else none)

theorem marksW_nil : marksW [] = fun _ => none := rfl

theorem marksW_snoc (ms : List Mark) (m : Mark) : marksW (ms ++ [m]) = upd (marksW ms) m.key (some (if m.is then some m.val else none)) := by
  funext k
  unfold marksW upd
  rw [lastM_snoc]
  by_cases h : m.key = k
  · rw [if_pos h, if_pos h.symm]; rfl
  · rw [if_neg h, if_neg (fun e => h e.symm)]

theorem lastM_mem (ms : List Mark) (k : Int) (m : Mark) (h : lastM ms k = some m) : m ∈ ms := by
  induction ms with
  | nil => simp [lastM] at h
  | cons x r ih =>
    unfold lastM at h
    split at h
    · rename_i y hy
      simp only [Option.some.injEq] at h
      subst h
      exact List.mem_cons_of_mem _ (ih hy)
    · split at h
      · simp only [Option.some.injEq] at h
        subst h
        exact List.mem_cons_self
      · simp at h

/-- what is seen: the value and whether one stands there -/
def seenV (S : Int → Option Int) (ms : List Mark) (k : Int) : Int := (lookS S (marksW ms) k).getD 0
def seenB (S : Int → Option Int) (ms : List Mark) (k : Int) : Bool := (lookS S (marksW ms) k).isSome

theorem seen_some (S : Int → Option Int) (ms : List Mark) (k : Int) (m : Mark) (hp : plainM ms) (h : lastM ms k = some m) : seenV S ms k = m.val ∧ seenB S ms k = m.is := by
  have hm := hp m (lastM_mem ms k m h)
  unfold seenV seenB lookS marksW
  rw [h]
  cases hi : m.is with
  | true => simp [hi]
  | false => simp [hi, hm hi]

theorem seen_none (S : Int → Option Int) (ms : List Mark) (k : Int) (h : lastM ms k = none) : seenV S ms k = (S k).getD 0 ∧ seenB S ms k = (S k).isSome := by
  unfold seenV seenB lookS marksW
  rw [h]
  exact ⟨rfl, rfl⟩

theorem plainM_snoc (ms : List Mark) (m : Mark) (h : plainM ms) (hm : m.is = false → m.val = 0) : plainM (ms ++ [m]) := by
  intro x hx
  rw [List.mem_append] at hx
  rcases hx with hx | hx
  · exact h x hx
  · simp at hx
    subst hx
    exact hm

end Hd
