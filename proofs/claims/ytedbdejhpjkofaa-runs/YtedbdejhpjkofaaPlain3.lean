import Derived.Test.YtedbdejhpjkofaaPlain2
/- Plain functions: one instruction, and the run of a procedure. No Go, no program. -/
namespace Hd

/-- a number of 64 bits, with a sign -/
def w64 (n : Int) : Int := (n + 9223372036854775808) % 18446744073709551616 - 9223372036854775808

/-- an instruction behind which the next one comes -/
def stepS (S : Int → Option Int) (i : Ins) (s : St) : St :=
  if i.kind = 1 then { s with rs := s.rs.set i.a (w64 i.num) }
  else if i.kind = 2 then { s with rs := s.rs.set i.a ((lookS S s.W (s.rs.getD i.b 0)).getD 0), R := s.R ++ [s.rs.getD i.b 0] }
  else if i.kind = 3 then { s with rs := s.rs.set i.a (if (lookS S s.W (s.rs.getD i.b 0)).isSome then 1 else 0), R := s.R ++ [s.rs.getD i.b 0] }
  else if i.kind = 4 then { s with W := upd s.W (s.rs.getD i.a 0) (some (some (s.rs.getD i.b 0))) }
  else if i.kind = 5 then { s with W := upd s.W (s.rs.getD i.a 0) (some none) }
  else if i.kind = 6 then { s with rs := s.rs.set i.a (w64 (s.rs.getD i.b 0 + s.rs.getD i.c 0)) }
  else if i.kind = 7 then { s with rs := s.rs.set i.a (w64 (s.rs.getD i.b 0 - s.rs.getD i.c 0)) }
  else if i.kind = 8 then { s with rs := s.rs.set i.a (w64 (s.rs.getD i.b 0 * s.rs.getD i.c 0)) }
  else { s with T := s.T ++ [s.rs.getD i.a 0] }

theorem step_told (S : Int → Option Int) (i : Ins) (s : St) : (stepS S i s).T.length ≤ s.T.length + 1 := by
  unfold stepS
  repeat' split
  all_goals simp

theorem step_reads (S : Int → Option Int) (i : Ins) (s : St) : (stepS S i s).R.length ≤ s.R.length + 1 := by
  unfold stepS
  repeat' split
  all_goals simp

/-- the run, from instruction p on: how it ends (2: committed; 3: rolled back), and the state then -/
def runS (S : Int → Option Int) (Is : List Ins) : Nat → Nat → St → Int × St
  | 0, _, s => (2, s)
  | f + 1, p, s =>
    if p < Is.length then
      if (Is.getD p ⟨0, 0, 0, 0, 0⟩).kind = 11 then (3, { s with W := fun _ => none })
      else if (Is.getD p ⟨0, 0, 0, 0, 0⟩).kind = 9 then
        (if s.rs.getD (Is.getD p ⟨0, 0, 0, 0, 0⟩).a 0 < s.rs.getD (Is.getD p ⟨0, 0, 0, 0, 0⟩).b 0 then runS S Is f (p + (Is.getD p ⟨0, 0, 0, 0, 0⟩).num + 1) s else runS S Is f (p + 1) s)
      else runS S Is f (p + 1) (stepS S (Is.getD p ⟨0, 0, 0, 0, 0⟩) s)
    else (2, s)

/-- more steps than there are instructions left change nothing -/
theorem runS_enough (S : Int → Option Int) (Is : List Ins) : ∀ (f g p : Nat) (s : St), Is.length ≤ p + f → f ≤ g → runS S Is g p s = runS S Is f p s := by
  intro f
  induction f with
  | zero =>
    intro g p s h _
    cases g with
    | zero => rfl
    | succ g => unfold runS; rw [if_neg (by omega)]
  | succ f ih =>
    intro g p s h hg
    obtain ⟨g', rfl⟩ : ∃ g', g = g' + 1 := ⟨g - 1, by omega⟩
    unfold runS
    by_cases hp : p < Is.length
    · rw [if_pos hp, if_pos hp]
      rw [ih g' (p + 1) s (by omega) (by omega), ih g' (p + 1) _ (by omega) (by omega), ih g' (p + (Is.getD p ⟨0, 0, 0, 0, 0⟩).num + 1) s (by omega) (by omega)]
    · rw [if_neg hp, if_neg hp]

/-- the whole run -/
def runAll (S : Int → Option Int) (Is : List Ins) : Int × St := runS S Is Is.length 0 ⟨[0, 0, 0, 0, 0, 0, 0, 0], fun _ => none, [], []⟩

theorem run_end (S : Int → Option Int) (Is : List Ins) (f p : Nat) (s : St) (h : Is.length ≤ p) : runS S Is f p s = (2, s) := by
  cases f with
  | zero => rfl
  | succ f => unfold runS; rw [if_neg (by omega)]
theorem run_abort (S : Int → Option Int) (Is : List Ins) (f p : Nat) (s : St) (h : p < Is.length) (hk : (Is[p]).kind = 11) : runS S Is (f + 1) p s = (3, { s with W := fun _ => none }) := by
  have e : Is.getD p ⟨0, 0, 0, 0, 0⟩ = Is[p] := by rw [List.getD_eq_getElem?_getD, List.getElem?_eq_getElem h]; rfl
  unfold runS; rw [if_pos h, e, if_pos hk]
theorem run_less (S : Int → Option Int) (Is : List Ins) (f p : Nat) (s : St) (h : p < Is.length) (hk : (Is[p]).kind = 9) (hf : Is.length ≤ p + (f + 1)) (hl : s.rs.getD (Is[p]).a 0 < s.rs.getD (Is[p]).b 0) : runS S Is (f + 1) p s = runS S Is (f - (Is[p]).num) (p + (Is[p]).num + 1) s := by
  have e : Is.getD p ⟨0, 0, 0, 0, 0⟩ = Is[p] := by rw [List.getD_eq_getElem?_getD, List.getElem?_eq_getElem h]; rfl
  rw [runS, if_pos h, e, if_neg (by omega), if_pos hk, if_pos hl]
  exact runS_enough S Is _ f _ s (by omega) (by omega)
theorem run_not (S : Int → Option Int) (Is : List Ins) (f p : Nat) (s : St) (h : p < Is.length) (hk : (Is[p]).kind = 9) (hl : ¬ s.rs.getD (Is[p]).a 0 < s.rs.getD (Is[p]).b 0) : runS S Is (f + 1) p s = runS S Is f (p + 1) s := by
  have e : Is.getD p ⟨0, 0, 0, 0, 0⟩ = Is[p] := by rw [List.getD_eq_getElem?_getD, List.getElem?_eq_getElem h]; rfl
  rw [runS, if_pos h, e, if_neg (by omega), if_pos hk, if_neg hl]
theorem run_step (S : Int → Option Int) (Is : List Ins) (f p : Nat) (s : St) (h : p < Is.length) (hk : (Is[p]).kind ≠ 11) (hk2 : (Is[p]).kind ≠ 9) : runS S Is (f + 1) p s = runS S Is f (p + 1) (stepS S Is[p] s) := by
  have e : Is.getD p ⟨0, 0, 0, 0, 0⟩ = Is[p] := by rw [List.getD_eq_getElem?_getD, List.getElem?_eq_getElem h]; rfl
  rw [runS, if_pos h, e, if_neg hk, if_neg hk2]

end Hd
