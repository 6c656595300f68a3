import Derived.Test.YtedbdejhpjkofaaW2
namespace Go.Proofs.Ytedbdejhpjkofaa
open Go.RowKit
set_option linter.unusedVariables false

theorem below2d (w : World) (A B : Array Value) (t u : TypeId) : Below w.heap.size w ((w.alloc (.cells A t)).alloc (.cells B u)).drew := (below2 w A B t u).drew


set_option maxHeartbeats 1000000 in
theorem cut_core00 (s : ByteArray) (w : World) (k : Nat) (q : Int) (h0 : 0 < s.size) (hs : s.size ≤ maxLen) (hk : (s[0]'h0).toNat = k) (hl : 1 ≤ s.size)
    (hop : ∀ w, Calls Try.prog 44 #[.int .u8 k] w fun e w' => e = .returned (.tuple #[.int .i64 0, .int .i64 0, .bool true]) ∧ w' = w)
    (hnum : ∀ w, Calls Try.prog 45 #[.string ⟨#[]⟩] w fun e w' => e = .returned (.int .i64 q) ∧ w' = w)  :
    Calls Try.prog 36 #[.string s] w fun e w' => e = .returned (.tuple #[.agg #[.int .u8 k, .int .u8 0, .int .u8 0, .int .u8 0, .int .i64 q], .string (s.extract 1 s.size), .bool true]) ∧ Below w.heap.size w w' := by
  unfold maxLen at hs
  go_enter Try.func36, Try.ntmps36
  go_wp2_with (first | (go_at_call 44; refine (hop _).mono ?_; rintro e w' ⟨rfl, rfl⟩))
  refine wp_loop_rounds 1 ?_
  rw [rounds_succ]
  go_wp2_with fail
  refine (hnum _).mono ?_
  rintro e w' ⟨rfl, rfl⟩
  go_wp2
  go_region
  go_wp2
  exact bodyPost_ret (v := .tuple #[.agg #[.int .u8 k, .int .u8 0, .int .u8 0, .int .u8 0, .int .i64 q], .string (s.extract 1 s.size), .bool true]) (by simp [results, Try.results36, go_sem]) rfl ⟨rfl, below2d _ _ _ _ _⟩

set_option maxHeartbeats 1000000 in
theorem cut_core10 (s : ByteArray) (w : World) (k : Nat) (q : Int) (h0 : 0 < s.size) (hs : s.size ≤ maxLen) (hk : (s[0]'h0).toNat = k) (hl : 2 ≤ s.size)
    (hop : ∀ w, Calls Try.prog 44 #[.int .u8 k] w fun e w' => e = .returned (.tuple #[.int .i64 1, .int .i64 0, .bool true]) ∧ w' = w)
    (hnum : ∀ w, Calls Try.prog 45 #[.string ⟨#[]⟩] w fun e w' => e = .returned (.int .i64 q) ∧ w' = w) (ha : (s[1]'(by omega)).toNat < 8) :
    Calls Try.prog 36 #[.string s] w fun e w' => e = .returned (.tuple #[.agg #[.int .u8 k, .int .u8 (s[1]'(by omega)).toNat, .int .u8 0, .int .u8 0, .int .i64 q], .string (s.extract 2 s.size), .bool true]) ∧ Below w.heap.size w w' := by
  unfold maxLen at hs
  go_enter Try.func36, Try.ntmps36
  go_wp2_with (first | (go_at_call 44; refine (hop _).mono ?_; rintro e w' ⟨rfl, rfl⟩))
  refine wp_loop_rounds 2 ?_
  rw [rounds_succ]
  go_wp2
  rw [rounds_succ]
  go_wp2_with fail
  refine (hnum _).mono ?_
  rintro e w' ⟨rfl, rfl⟩
  go_wp2
  go_region
  go_wp2
  exact bodyPost_ret (v := .tuple #[.agg #[.int .u8 k, .int .u8 (s[1]'(by omega)).toNat, .int .u8 0, .int .u8 0, .int .i64 q], .string (s.extract 2 s.size), .bool true]) (by simp [results, Try.results36, go_sem]) rfl ⟨rfl, below2d _ _ _ _ _⟩

set_option maxHeartbeats 1000000 in
theorem cut_core18 (s : ByteArray) (w : World) (k : Nat) (q : Int) (h0 : 0 < s.size) (hs : s.size ≤ maxLen) (hk : (s[0]'h0).toNat = k) (hl : 10 ≤ s.size)
    (hop : ∀ w, Calls Try.prog 44 #[.int .u8 k] w fun e w' => e = .returned (.tuple #[.int .i64 1, .int .i64 8, .bool true]) ∧ w' = w)
    (hnum : ∀ w, Calls Try.prog 45 #[.string (s.extract 2 10)] w fun e w' => e = .returned (.int .i64 q) ∧ w' = w) (ha : (s[1]'(by omega)).toNat < 8) :
    Calls Try.prog 36 #[.string s] w fun e w' => e = .returned (.tuple #[.agg #[.int .u8 k, .int .u8 (s[1]'(by omega)).toNat, .int .u8 0, .int .u8 0, .int .i64 q], .string (s.extract 10 s.size), .bool true]) ∧ Below w.heap.size w w' := by
  unfold maxLen at hs
  go_enter Try.func36, Try.ntmps36
  go_wp2_with (first | (go_at_call 44; refine (hop _).mono ?_; rintro e w' ⟨rfl, rfl⟩))
  refine wp_loop_rounds 2 ?_
  rw [rounds_succ]
  go_wp2
  rw [rounds_succ]
  go_wp2_with fail
  refine (hnum _).mono ?_
  rintro e w' ⟨rfl, rfl⟩
  go_wp2
  go_region
  go_wp2
  exact bodyPost_ret (v := .tuple #[.agg #[.int .u8 k, .int .u8 (s[1]'(by omega)).toNat, .int .u8 0, .int .u8 0, .int .i64 q], .string (s.extract 10 s.size), .bool true]) (by simp [results, Try.results36, go_sem]) rfl ⟨rfl, below2d _ _ _ _ _⟩

set_option maxHeartbeats 1000000 in
theorem cut_core20 (s : ByteArray) (w : World) (k : Nat) (q : Int) (h0 : 0 < s.size) (hs : s.size ≤ maxLen) (hk : (s[0]'h0).toNat = k) (hl : 3 ≤ s.size)
    (hop : ∀ w, Calls Try.prog 44 #[.int .u8 k] w fun e w' => e = .returned (.tuple #[.int .i64 2, .int .i64 0, .bool true]) ∧ w' = w)
    (hnum : ∀ w, Calls Try.prog 45 #[.string ⟨#[]⟩] w fun e w' => e = .returned (.int .i64 q) ∧ w' = w) (ha : (s[1]'(by omega)).toNat < 8) (hb : (s[2]'(by omega)).toNat < 8) :
    Calls Try.prog 36 #[.string s] w fun e w' => e = .returned (.tuple #[.agg #[.int .u8 k, .int .u8 (s[1]'(by omega)).toNat, .int .u8 (s[2]'(by omega)).toNat, .int .u8 0, .int .i64 q], .string (s.extract 3 s.size), .bool true]) ∧ Below w.heap.size w w' := by
  unfold maxLen at hs
  go_enter Try.func36, Try.ntmps36
  go_wp2_with (first | (go_at_call 44; refine (hop _).mono ?_; rintro e w' ⟨rfl, rfl⟩))
  refine wp_loop_rounds 3 ?_
  rw [rounds_succ]
  go_wp2
  rw [rounds_succ]
  go_wp2
  rw [rounds_succ]
  go_wp2_with fail
  refine (hnum _).mono ?_
  rintro e w' ⟨rfl, rfl⟩
  go_wp2
  go_region
  go_wp2
  exact bodyPost_ret (v := .tuple #[.agg #[.int .u8 k, .int .u8 (s[1]'(by omega)).toNat, .int .u8 (s[2]'(by omega)).toNat, .int .u8 0, .int .i64 q], .string (s.extract 3 s.size), .bool true]) (by simp [results, Try.results36, go_sem]) rfl ⟨rfl, below2d _ _ _ _ _⟩

set_option maxHeartbeats 1000000 in
theorem cut_core21 (s : ByteArray) (w : World) (k : Nat) (q : Int) (h0 : 0 < s.size) (hs : s.size ≤ maxLen) (hk : (s[0]'h0).toNat = k) (hl : 4 ≤ s.size)
    (hop : ∀ w, Calls Try.prog 44 #[.int .u8 k] w fun e w' => e = .returned (.tuple #[.int .i64 2, .int .i64 1, .bool true]) ∧ w' = w)
    (hnum : ∀ w, Calls Try.prog 45 #[.string (s.extract 3 4)] w fun e w' => e = .returned (.int .i64 q) ∧ w' = w) (ha : (s[1]'(by omega)).toNat < 8) (hb : (s[2]'(by omega)).toNat < 8) :
    Calls Try.prog 36 #[.string s] w fun e w' => e = .returned (.tuple #[.agg #[.int .u8 k, .int .u8 (s[1]'(by omega)).toNat, .int .u8 (s[2]'(by omega)).toNat, .int .u8 0, .int .i64 q], .string (s.extract 4 s.size), .bool true]) ∧ Below w.heap.size w w' := by
  unfold maxLen at hs
  go_enter Try.func36, Try.ntmps36
  go_wp2_with (first | (go_at_call 44; refine (hop _).mono ?_; rintro e w' ⟨rfl, rfl⟩))
  refine wp_loop_rounds 3 ?_
  rw [rounds_succ]
  go_wp2
  rw [rounds_succ]
  go_wp2
  rw [rounds_succ]
  go_wp2_with fail
  refine (hnum _).mono ?_
  rintro e w' ⟨rfl, rfl⟩
  go_wp2
  go_region
  go_wp2
  exact bodyPost_ret (v := .tuple #[.agg #[.int .u8 k, .int .u8 (s[1]'(by omega)).toNat, .int .u8 (s[2]'(by omega)).toNat, .int .u8 0, .int .i64 q], .string (s.extract 4 s.size), .bool true]) (by simp [results, Try.results36, go_sem]) rfl ⟨rfl, below2d _ _ _ _ _⟩

set_option maxHeartbeats 1000000 in
theorem cut_core30 (s : ByteArray) (w : World) (k : Nat) (q : Int) (h0 : 0 < s.size) (hs : s.size ≤ maxLen) (hk : (s[0]'h0).toNat = k) (hl : 4 ≤ s.size)
    (hop : ∀ w, Calls Try.prog 44 #[.int .u8 k] w fun e w' => e = .returned (.tuple #[.int .i64 3, .int .i64 0, .bool true]) ∧ w' = w)
    (hnum : ∀ w, Calls Try.prog 45 #[.string ⟨#[]⟩] w fun e w' => e = .returned (.int .i64 q) ∧ w' = w) (ha : (s[1]'(by omega)).toNat < 8) (hb : (s[2]'(by omega)).toNat < 8) (hc : (s[3]'(by omega)).toNat < 8) :
    Calls Try.prog 36 #[.string s] w fun e w' => e = .returned (.tuple #[.agg #[.int .u8 k, .int .u8 (s[1]'(by omega)).toNat, .int .u8 (s[2]'(by omega)).toNat, .int .u8 (s[3]'(by omega)).toNat, .int .i64 q], .string (s.extract 4 s.size), .bool true]) ∧ Below w.heap.size w w' := by
  unfold maxLen at hs
  go_enter Try.func36, Try.ntmps36
  go_wp2_with (first | (go_at_call 44; refine (hop _).mono ?_; rintro e w' ⟨rfl, rfl⟩))
  refine wp_loop_rounds 4 ?_
  rw [rounds_succ]
  go_wp2
  rw [rounds_succ]
  go_wp2
  rw [rounds_succ]
  go_wp2
  rw [rounds_succ]
  go_wp2_with fail
  refine (hnum _).mono ?_
  rintro e w' ⟨rfl, rfl⟩
  go_wp2
  go_region
  go_wp2
  exact bodyPost_ret (v := .tuple #[.agg #[.int .u8 k, .int .u8 (s[1]'(by omega)).toNat, .int .u8 (s[2]'(by omega)).toNat, .int .u8 (s[3]'(by omega)).toNat, .int .i64 q], .string (s.extract 4 s.size), .bool true]) (by simp [results, Try.results36, go_sem]) rfl ⟨rfl, below2d _ _ _ _ _⟩

end Go.Proofs.Ytedbdejhpjkofaa
