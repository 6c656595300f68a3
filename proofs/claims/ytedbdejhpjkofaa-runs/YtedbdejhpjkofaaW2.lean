import Derived.Test.YtedbdejhpjkofaaW1
import Derived.RegionTactic
import Derived.ChangeAlike
namespace Go.Proofs.Ytedbdejhpjkofaa
open Go.RowKit
set_option linter.unusedVariables false

/-- the cells of an instruction -/
def insCells (i : Hd.Ins) : List Value := [.int .u8 i.kind, .int .u8 i.a, .int .u8 i.b, .int .u8 i.c, .int .i64 (wrap64 i.num)]

def cutNo : Value := .tuple #[.agg #[.int .u8 0, .int .u8 0, .int .u8 0, .int .u8 0, .int .i64 0], .string ⟨#[]⟩, .bool false]

theorem below2 (w : World) (A B : Array Value) (t u : TypeId) : Below w.heap.size w ((w.alloc (.cells A t)).alloc (.cells B u)) :=
  ((Below.refl _ _).alloc (Nat.le_refl _) _).alloc (by simp) _

set_option maxHeartbeats 400000 in
theorem cut_unknown (s : ByteArray) (w : World) (k : Nat) (h0 : 0 < s.size) (hs : s.size ≤ maxLen) (hk : (s[0]'h0).toNat = k) (hkn : Hd.known k = false) :
    Calls Try.prog 36 #[.string s] w fun e w' => e = .returned cutNo ∧ Below w.heap.size w w' := by
  unfold maxLen at hs
  have hop := operands_any k
  have hr := Hd.regs_le k
  have hm := Hd.more_le k
  rw [hkn] at hop
  generalize Hd.regs k = n at *
  generalize Hd.more k = m at *
  clear hkn
  go_enter Try.func36, Try.ntmps36
  go_wp2_with (first | (go_at_call 44; refine (hop _).mono ?_; rintro e w' ⟨rfl, rfl⟩))
  exact bodyPost_ret (v := cutNo) (by simp [results, Try.results36, go_sem, cutNo]) rfl ⟨rfl, below2 _ _ _ _ _⟩

set_option maxHeartbeats 400000 in
theorem cut_short (s : ByteArray) (w : World) (k : Nat) (h0 : 0 < s.size) (hs : s.size ≤ maxLen) (hk : (s[0]'h0).toNat = k) (hkn : Hd.known k = true) (hl : s.size < Hd.size k) :
    Calls Try.prog 36 #[.string s] w fun e w' => e = .returned cutNo ∧ Below w.heap.size w w' := by
  unfold maxLen at hs
  have hop := operands_any k
  have hr := Hd.regs_le k
  have hm := Hd.more_le k
  unfold Hd.size at hl
  rw [hkn] at hop
  generalize Hd.regs k = n at *
  generalize Hd.more k = m at *
  clear hkn
  have hl' : (s.size : Int) < 1 + (n : Int) + (m : Int) := by omega
  go_enter Try.func36, Try.ntmps36
  go_wp2_with (first | (go_at_call 44; refine (hop _).mono ?_; rintro e w' ⟨rfl, rfl⟩))
  exact bodyPost_ret (v := cutNo) (by simp [results, Try.results36, go_sem, cutNo]) rfl ⟨rfl, below2 _ _ _ _ _⟩

set_option maxHeartbeats 400000 in
theorem cut_bad0 (s : ByteArray) (w : World) (k : Nat) (h0 : 0 < s.size) (hs : s.size ≤ maxLen) (hk : (s[0]'h0).toNat = k) (hkn : Hd.known k = true) (hl : Hd.size k ≤ s.size) (hn : 0 < Hd.regs k)
    (h1 : 1 < s.size) (hb : 8 ≤ (s[1]'h1).toNat) :
    Calls Try.prog 36 #[.string s] w fun e w' => e = .returned cutNo ∧ Below w.heap.size w w' := by
  unfold maxLen at hs
  have hop := operands_any k
  have hr := Hd.regs_le k
  have hm := Hd.more_le k
  unfold Hd.size at hl
  rw [hkn] at hop
  generalize Hd.regs k = n at *
  generalize Hd.more k = m at *
  clear hkn
  go_enter Try.func36, Try.ntmps36
  go_wp2_with (first | (go_at_call 44; refine (hop _).mono ?_; rintro e w' ⟨rfl, rfl⟩))
  refine wp_loop_rounds 1 ?_
  rw [rounds_succ]
  go_wp2
  exact bodyPost_ret (v := cutNo) (by simp [results, Try.results36, go_sem, cutNo]) rfl ⟨rfl, below2 _ _ _ _ _⟩

set_option maxHeartbeats 400000 in
theorem cut_bad1 (s : ByteArray) (w : World) (k : Nat) (h0 : 0 < s.size) (hs : s.size ≤ maxLen) (hk : (s[0]'h0).toNat = k) (hkn : Hd.known k = true) (hl : Hd.size k ≤ s.size) (hn : 1 < Hd.regs k)
    (h1 : 2 < s.size) (ha : (s[1]'(by omega)).toNat < 8) (hb : 8 ≤ (s[2]'h1).toNat) :
    Calls Try.prog 36 #[.string s] w fun e w' => e = .returned cutNo ∧ Below w.heap.size w w' := by
  unfold maxLen at hs
  have hop := operands_any k
  have hr := Hd.regs_le k
  have hm := Hd.more_le k
  unfold Hd.size at hl
  rw [hkn] at hop
  generalize Hd.regs k = n at *
  generalize Hd.more k = m at *
  clear hkn
  go_enter Try.func36, Try.ntmps36
  go_wp2_with (first | (go_at_call 44; refine (hop _).mono ?_; rintro e w' ⟨rfl, rfl⟩))
  refine wp_loop_rounds 2 ?_
  rw [rounds_succ]
  go_wp2
  rw [rounds_succ]
  go_wp2
  exact bodyPost_ret (v := cutNo) (by simp [results, Try.results36, go_sem, cutNo]) rfl ⟨rfl, below2 _ _ _ _ _⟩

set_option maxHeartbeats 400000 in
theorem cut_bad2 (s : ByteArray) (w : World) (k : Nat) (h0 : 0 < s.size) (hs : s.size ≤ maxLen) (hk : (s[0]'h0).toNat = k) (hkn : Hd.known k = true) (hl : Hd.size k ≤ s.size) (hn : 2 < Hd.regs k)
    (h1 : 3 < s.size) (ha : (s[1]'(by omega)).toNat < 8) (hc : (s[2]'(by omega)).toNat < 8) (hb : 8 ≤ (s[3]'h1).toNat) :
    Calls Try.prog 36 #[.string s] w fun e w' => e = .returned cutNo ∧ Below w.heap.size w w' := by
  unfold maxLen at hs
  have hop := operands_any k
  have hr := Hd.regs_le k
  have hm := Hd.more_le k
  unfold Hd.size at hl
  rw [hkn] at hop
  generalize Hd.regs k = n at *
  generalize Hd.more k = m at *
  clear hkn
  go_enter Try.func36, Try.ntmps36
  go_wp2_with (first | (go_at_call 44; refine (hop _).mono ?_; rintro e w' ⟨rfl, rfl⟩))
  refine wp_loop_rounds 3 ?_
  rw [rounds_succ]
  go_wp2
  rw [rounds_succ]
  go_wp2
  rw [rounds_succ]
  go_wp2
  exact bodyPost_ret (v := cutNo) (by simp [results, Try.results36, go_sem, cutNo]) rfl ⟨rfl, below2 _ _ _ _ _⟩


end Go.Proofs.Ytedbdejhpjkofaa
