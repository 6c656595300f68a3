import Derived.Test.YtedbdejhpjkofaaRows
import Derived.Test.YtedbdejhpjkofaaPlain
import Derived.WalkKit
import Derived.WalkSpells
import Derived.WalkLawsBesides
namespace Go.Proofs.Ytedbdejhpjkofaa
open Go.RowKit
set_option linter.unusedVariables false

set_option maxHeartbeats 400000 in
theorem operands_any (k : Nat) (w : World) :
    Calls Try.prog 44 #[.int .u8 k] w fun e w' => e = .returned (.tuple #[.int .i64 (Hd.regs k), .int .i64 (Hd.more k), .bool (Hd.known k)]) ∧ w' = w := by
  by_cases h : 1 ≤ k ∧ k ≤ 11
  · have hk : k = 1 ∨ k = 2 ∨ k = 3 ∨ k = 4 ∨ k = 5 ∨ k = 6 ∨ k = 7 ∨ k = 8 ∨ k = 9 ∨ k = 10 ∨ k = 11 := by omega
    clear h
    rcases hk with rfl | rfl | rfl | rfl | rfl | rfl | rfl | rfl | rfl | rfl | rfl
    all_goals
      go_enter Try.func44, Try.ntmps44
      go_wp2
      go_ret3
      exact ⟨by simp [Hd.regs, Hd.more, Hd.known], rfl⟩
  · have h1 : ((k : Int) == 1) = false := by simp; omega
    have h2 : ((k : Int) == 2) = false := by simp; omega
    have h3 : ((k : Int) == 3) = false := by simp; omega
    have h4 : ((k : Int) == 4) = false := by simp; omega
    have h5 : ((k : Int) == 5) = false := by simp; omega
    have h6 : ((k : Int) == 6) = false := by simp; omega
    have h7 : ((k : Int) == 7) = false := by simp; omega
    have h8 : ((k : Int) == 8) = false := by simp; omega
    have h9 : ((k : Int) == 9) = false := by simp; omega
    have h10 : ((k : Int) == 10) = false := by simp; omega
    have h11 : ((k : Int) == 11) = false := by simp; omega
    have e1 : Hd.regs k = 0 := by unfold Hd.regs; repeat rw [if_neg (by omega)]
    have e2 : Hd.more k = 0 := by unfold Hd.more; repeat rw [if_neg (by omega)]
    have e3 : Hd.known k = false := by unfold Hd.known; exact decide_eq_false h
    rw [e1, e2, e3]
    clear h e1 e2 e3
    go_enter Try.func44, Try.ntmps44
    go_wp2
    go_ret3
    exact ⟨rfl, rfl⟩

theorem num_step (m b : Nat) (hm : m < 72057594037927936) (hb : b < 256) :
    bits BinOp.or IntKind.u64 (IntKind.u64.wrap ((m : Int) * 256)) (IntKind.u64.wrap (b : Int)) = ((m * 256 + b : Nat) : Int) := by
  have e1 : IntKind.u64.wrap ((m : Int) * 256) = ((m * 256 : Nat) : Int) := by rw [IntKind.wrap_u64]; omega
  have e2 : IntKind.u64.wrap (b : Int) = (b : Int) := by rw [IntKind.wrap_u64]; omega
  rw [e1, e2, bits_or_u64_nat _ _ (by omega) (by omega), Hd.or_byte _ _ hb]

set_option maxHeartbeats 400000 in
theorem number_any (s : ByteArray) (w : World) (hs : s.size ≤ 8) :
    Calls Try.prog 45 #[.string s] w fun e w' => e = .returned (.int .i64 (wrap64 (Hd.numU s.data.toList))) ∧ w' = w := by
  go_enter Try.func45, Try.ntmps45
  go_wp2
  go_loop [3, 4, 7] (fun n _i j => ∃ k : Nat, k ≤ s.size ∧ j = .int .i64 k ∧ n = .int .u64 (Hd.numU (s.data.toList.take k))) (fun _ _ i => s.size - (intOf i).toNat)
  case atStart => exact ⟨0, Nat.zero_le _, rfl, rfl⟩
  case round =>
    obtain ⟨k, hk, rfl, rfl⟩ := hrel
    by_cases hlt : k < s.size
    · have H : Hid (bits BinOp.or IntKind.u64 (IntKind.u64.wrap ((Hd.numU (s.data.toList.take k) : Int) * 256)) (IntKind.u64.wrap ((s[k].toNat : Nat) : Int)) = (Hd.numU (s.data.toList.take (k + 1)) : Int)) := by
        have h1 := Hd.numU_lt (s.data.toList.take k)
        have h2 : (s.data.toList.take k).length = k := by rw [List.length_take]; simp; omega
        rw [h2] at h1
        have h3 := Hd.pow_le k (by omega)
        have h4 := num_step (Hd.numU (s.data.toList.take k)) s[k].toNat (by omega) (UInt8.toNat_lt _)
        rw [Hd.take_snoc s k hlt, Hd.numU_snoc]
        exact h4
      go_wp2
      go_round
      case rel => exact ⟨k + 1, by omega, by go_num, by rw [H.out]⟩
      case measure => simp [intOf]; omega
    · go_wp2
      go_ret
      have ht : s.data.toList.take k = s.data.toList := List.take_of_length_le (by simp; omega)
      rw [ht]
      exact ⟨rfl, rfl⟩

end Go.Proofs.Ytedbdejhpjkofaa
