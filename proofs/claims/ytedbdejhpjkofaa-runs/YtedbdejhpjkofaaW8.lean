import Derived.Test.YtedbdejhpjkofaaW7
namespace Go.Proofs.Ytedbdejhpjkofaa
open Go.RowKit
set_option linter.unusedVariables false

/-- what Check answers -/
def chk (L : List UInt8) : Int := if (Hd.prog L).isSome then 0 else 2

set_option maxHeartbeats 400000 in
theorem num_any (n : Int) (w : World) : Calls Try.prog 9 #[.int .i64 n] w fun e w' => e = .returned (.int .i64 n) ∧ w' = w := by
  go_enter Try.func9, Try.ntmps9
  go_wp2
  go_ret
  exact ⟨rfl, rfl⟩

set_option maxHeartbeats 400000 in
theorem isProc_any (s : ByteArray) (w : World) (hs : s.size ≤ maxLen) :
    Calls Try.prog 17 #[.string s] w fun e w' => e = .returned (.bool (Hd.prog s.data.toList).isSome) ∧ Below w.heap.size w w' := by
  have hc := decode_loop s w hs
  generalize s.data.toList = L at *
  cases hp : Hd.prog L with
  | none =>
    have hc2 : Calls Try.prog 26 #[.string s] w fun e w' => e = .returned (.tuple #[.slice none 0 0, .bool false]) ∧ Below w.heap.size w w' := hc.mono fun e w' h => ⟨h.1.2 hp, h.2⟩
    clear hc hp hs
    simp only [Option.isSome_none]
    go_enter Try.func17, Try.ntmps17
    go_wp2_with fail
    refine hc2.mono ?_
    rintro e w1 ⟨rfl, hb⟩
    go_wp2
    go_ret
    exact ⟨rfl, hb⟩
  | some ps =>
    have hc2 : Calls Try.prog 26 #[.string s] w fun e w' => ∃ v, e = .returned (.tuple #[v, .bool true]) ∧ Below w.heap.size w w' := hc.mono fun e w' h => by
      obtain ⟨v, hv, _⟩ := h.1.1 ps hp
      exact ⟨v, hv, h.2⟩
    clear hc hp hs
    simp only [Option.isSome_some]
    go_enter Try.func17, Try.ntmps17
    go_wp2_with fail
    refine hc2.mono ?_
    rintro e w1 ⟨v, rfl, hb⟩
    go_wp2
    go_ret
    exact ⟨rfl, hb⟩

set_option maxHeartbeats 400000 in
theorem check_any (s : ByteArray) (w : World) (hs : s.size ≤ maxLen) :
    Calls Try.prog 7 #[.string s] w fun e w' => e = .returned (.int .i64 (chk s.data.toList)) ∧ Below w.heap.size w w' := by
  have hc := isProc_any s w hs
  unfold chk
  generalize (Hd.prog s.data.toList).isSome = b at *
  cases b with
  | false =>
    simp only [Bool.false_eq_true, if_false]
    go_enter Try.func7, Try.ntmps7
    go_wp2_with fail
    refine hc.mono ?_
    rintro e w1 ⟨rfl, hb⟩
    go_wp2
    go_ret
    exact ⟨rfl, hb⟩
  | true =>
    simp only [if_true]
    go_enter Try.func7, Try.ntmps7
    go_wp2_with fail
    refine hc.mono ?_
    rintro e w1 ⟨rfl, hb⟩
    go_wp2
    go_ret
    exact ⟨rfl, hb⟩

set_option maxHeartbeats 400000 in
theorem refCheck_any (s : ByteArray) (w : World) (hs : s.size ≤ 140737488351232) :
    Calls Try.prog 8 #[.string s] w fun e w' => e = .returned (.int .i64 (chk s.data.toList)) ∧ Below w.heap.size w w' := by
  have hc := begins_any s w hs
  unfold chk
  generalize s.data.toList = L at *
  cases hp : Hd.prog L with
  | none =>
    have hc2 : Calls Try.prog 18 #[.string s] w fun e w' => e = .returned (.tuple #[.slice none 0 0, .bool false]) ∧ Below w.heap.size w w' := hc.mono fun e w' h => ⟨h.1.2 hp, h.2⟩
    clear hc hp hs
    simp only [Option.isSome_none, Bool.false_eq_true, if_false]
    go_enter Try.func8, Try.ntmps8
    go_wp2_with fail
    refine hc2.mono ?_
    rintro e w1 ⟨rfl, hb⟩
    go_wp2
    go_ret
    exact ⟨rfl, hb⟩
  | some ps =>
    have hc2 : Calls Try.prog 18 #[.string s] w fun e w' => ∃ v, e = .returned (.tuple #[v, .bool true]) ∧ Below w.heap.size w w' := hc.mono fun e w' h => by
      obtain ⟨v, hv, _⟩ := h.1.1 ps hp
      exact ⟨v, hv, h.2⟩
    clear hc hp hs
    simp only [Option.isSome_some, if_true]
    go_enter Try.func8, Try.ntmps8
    go_wp2_with fail
    refine hc2.mono ?_
    rintro e w1 ⟨v, rfl, hb⟩
    go_wp2
    go_ret
    exact ⟨rfl, hb⟩

end Go.Proofs.Ytedbdejhpjkofaa
