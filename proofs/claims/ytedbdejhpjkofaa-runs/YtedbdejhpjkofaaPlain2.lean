import Derived.Test.YtedbdejhpjkofaaPlain
/- Plain functions: how a procedure runs. No Go, no program. -/
namespace Hd

/-- the registers; what was written (a key that stands with a value, or not at all); what was told; the keys that were read -/
structure St where
  rs : List Int
  W : Int → Option (Option Int)
  T : List Int
  R : List Int

/-- how a key stands for the procedure -/
def lookS (S : Int → Option Int) (W : Int → Option (Option Int)) (k : Int) : Option Int :=
  match W k with
  | some c => c
  | none => S k

def upd {α : Type} (f : Int → Option α) (k : Int) (v : Option α) : Int → Option α := fun x => if x = k then v else f x

def reg (s : St) (a : Nat) : Int := s.rs.getD a 0

end Hd
