import Derived.Test.YtedbdejhpjkofaaU12
namespace Go.Proofs.Ytedbdejhpjkofaa
open Go.RowKit Go.Maps
set_option linter.unusedVariables false
set_option linter.unusedSimpArgs false

theorem num_step2 (m b : Nat) (hm : m < 72057594037927936) (hb : b < 256) :
    IntKind.u64.wrap (IntKind.u64.wrap ((m : Int) * 256) + IntKind.u64.wrap (b : Int)) = ((m * 256 + b : Nat) : Int) := by
  simp only [IntKind.wrap_u64]; omega

set_option maxHeartbeats 1000000 in
theorem refNumber (s : ByteArray) (w : World) (hs : s.size = 8) :
    Calls Try.prog 38 #[.string s] w fun e w' => e = .returned (.int .i64 (wrap64 (Hd.numU s.data.toList))) ∧ w' = w := by
  have hs' : (8 : Int) ≤ (s.size : Int) := by omega
  have HS : Hid (s.size = 8) := hs
  clear hs
  go_enter Try.func38, Try.ntmps38
  go_wp2
  go_loop [3, 4] (fun n j => ∃ k : Nat, k ≤ 8 ∧ j = .int .i64 k ∧ n = .int .u64 (Hd.numU (s.data.toList.take k))) (fun _ i => 8 - (intOf i).toNat)
  case atStart => exact ⟨0, Nat.zero_le _, rfl, rfl⟩
  case round =>
    obtain ⟨k, hk, rfl, rfl⟩ := hrel
    by_cases hlt : k < 8
    · have hlt2 : k < s.size := by have := HS.out; omega
      have H : Hid (IntKind.u64.wrap (IntKind.u64.wrap ((Hd.numU (s.data.toList.take k) : Int) * 256) + IntKind.u64.wrap ((s[k].toNat : Nat) : Int)) = (Hd.numU (s.data.toList.take (k + 1)) : Int)) := by
        have h1 := Hd.numU_lt (s.data.toList.take k)
        have h2 : (s.data.toList.take k).length = k := by rw [List.length_take]; simp; omega
        rw [h2] at h1
        have h3 := Hd.pow_le k (by omega)
        have h4 := num_step2 (Hd.numU (s.data.toList.take k)) s[k].toNat (by omega) (UInt8.toNat_lt _)
        rw [Hd.take_snoc s k hlt2, Hd.numU_snoc]
        exact h4
      go_wp2
      go_round
      case rel => exact ⟨k + 1, by omega, by go_num, by rw [H.out]⟩
      case measure => simp [intOf]; omega
    · go_wp2
      go_ret
      have ht : s.data.toList.take k = s.data.toList := List.take_of_length_le (by have := HS.out; simp; omega)
      rw [ht]
      exact ⟨rfl, rfl⟩

/-- the pairs of the document's own list lie behind a slice's address -/
def HoldsL (w : World) (ao : Option Addr) (Ps : List (Int × Int)) : Prop :=
  ∀ i (h : i < Ps.length), ∃ g, ao = some ⟨g, 0, none⟩ ∧ g < w.heap.size ∧ w.cell? ⟨g, i * 2, none⟩ = some (.int .i64 (Ps[i]).1) ∧ w.cell? ⟨g, i * 2 + 1, none⟩ = some (.int .i64 (Ps[i]).2)

theorem HoldsP.toL {w : World} {ao : Option Addr} {Ps : List (Int × Int)} (h : HoldsP w ao Ps) : HoldsL w ao Ps := fun i hi => by
  obtain ⟨g, h1, h2, h3, h4, _⟩ := h i hi
  exact ⟨g, h1, h2, h3, h4⟩

theorem pairCells_get (L : List (Int × Int)) (i : Nat) (hi : i < L.length) : (pairCells L)[i * 2]? = some (.int .i64 (L[i]).1) ∧ (pairCells L)[i * 2 + 1]? = some (.int .i64 (L[i]).2) := by
  induction L generalizing i with
  | nil => simp at hi
  | cons x r ih =>
    have e : pairCells (x :: r) = .int .i64 x.1 :: .int .i64 x.2 :: pairCells r := rfl
    rw [e]
    cases i with
    | zero => exact ⟨rfl, rfl⟩
    | succ i =>
      have := ih i (by simpa using hi)
      have e1 : (i + 1) * 2 = i * 2 + 1 + 1 := by omega
      rw [e1]
      simpa using this

theorem holdsL_own {w : World} {base cap : Nat} {L : List (Int × Int)} {ao : Option Addr} (h : w.ownsRow base 44 2 (.slice ao L.length cap) L.length (pairCells L)) : HoldsL w ao L := by
  intro i hi
  rcases h.2 with ⟨hv, hz⟩ | ⟨g, cap', cur, hv, hbase, hg, _⟩
  · omega
  · simp only [Value.slice.injEq] at hv
    obtain ⟨rfl, _, rfl⟩ := hv
    obtain ⟨h1, h2⟩ := pairCells_get L i hi
    have c0 := h.cells (g := g) rfl _ _ h1
    have c1 := h.cells (g := g) rfl _ _ h2
    rw [add_at] at c0 c1
    exact ⟨g, rfl, (Array.getElem?_eq_some_iff.1 hg).1, c0, c1⟩

theorem ofPairs_none_take (L : List (Int × Int)) (key : Int) (h : ∀ i (hi : i < L.length), (L[i]).1 ≠ key) : Hd.ofPairs L key = none := by
  rw [Hd.ofPairs_none]
  intro hm
  obtain ⟨p, hp, e⟩ := List.mem_map.1 hm
  obtain ⟨i, hi, rfl⟩ := List.getElem_of_mem hp
  exact h i hi e

theorem ofPairs_first (L : List (Int × Int)) (key : Int) (k : Nat) (hk : k < L.length) (h : ∀ i (hi : i < L.length), i < k → (L[i]).1 ≠ key) (he : (L[k]).1 = key) : Hd.ofPairs L key = some (L[k]).2 := by
  induction L generalizing k with
  | nil => simp at hk
  | cons x r ih =>
    unfold Hd.ofPairs
    cases k with
    | zero =>
      simp only [List.getElem_cons_zero] at he ⊢
      rw [List.find?_cons_of_pos (by simp [he])]
      rfl
    | succ k =>
      have h0 := h 0 (by simp) (by omega)
      simp only [List.getElem_cons_zero] at h0
      rw [List.find?_cons_of_neg (by simp [h0])]
      exact ih k (by simpa using hk) (fun i hi hik => h (i + 1) (by simpa using hi) (by omega)) he

set_option maxRecDepth 100000 in
set_option maxHeartbeats 1000000 in
theorem under_any (ao : Option Addr) (cap : Nat) (L : List (Int × Int)) (key : Int) (w : World) (hL : HoldsL w ao L) (hn : L.length ≤ 8796093022207) :
    Calls Try.prog 28 #[.slice ao L.length cap, .int .i64 key] w fun e w' => e = .returned (.tuple #[.int .i64 ((Hd.ofPairs L key).getD 0), .bool (Hd.ofPairs L key).isSome]) ∧ w' = w := by
  go_enter Try.func28, Try.ntmps28
  go_wp2
  go_loop [6] (fun j => ∃ k : Nat, k ≤ L.length ∧ j = .int .i64 k ∧ ∀ i (hi : i < L.length), i < k → (L[i]).1 ≠ key) (fun j => L.length - (intOf j).toNat)
  case atStart => exact ⟨0, Nat.zero_le _, rfl, fun i _ h => absurd h (Nat.not_lt_zero _)⟩
  case round =>
    obtain ⟨k, hk, rfl, hall⟩ := hrel
    by_cases hlt : k < L.length
    · obtain ⟨g, rfl, hg, c0, c1⟩ := hL k hlt
      have Hall : Hid (∀ i (hi : i < L.length), i < k → (L[i]).1 ≠ key) := hall
      have Hfirst : Hid ((L[k]).1 = key → Hd.ofPairs L key = some (L[k]).2) := ofPairs_first L key k hlt hall
      clear hall hL
      by_cases he : (L[k]).1 = key
      · have hf := Hfirst.out he
        have HF : Hid (Hd.ofPairs L key = some (L[k]).2) := hf
        rw [he] at c0
        have hbe : (key == key) = true := by simp
        clear hf he Hfirst Hall
        generalize (L[k]).2 = v at *
        go_wp2
        go_ret2
        rw [HF.out]
        exact ⟨rfl, rfl⟩
      · have hne : ((L[k]).1 == key) = false := by simpa using he
        have Hne : Hid (∀ i (hi : i < L.length), i = k → (L[i]).1 ≠ key) := fun i hi e => by subst e; exact he
        clear he Hfirst
        generalize (L[k]).1 = x at *
        go_wp2
        go_round
        case rel =>
          refine ⟨k + 1, by omega, by go_num, fun i hi hik => ?_⟩
          by_cases e : i = k
          · exact Hne.out i hi e
          · exact Hall.out i hi (by omega)
        case measure => simp [intOf]; omega
    · have HF : Hid (Hd.ofPairs L key = none) := ofPairs_none_take L key (fun i hi => hall i hi (by omega))
      clear hall hL
      go_wp2
      go_ret2
      rw [HF.out]
      exact ⟨rfl, rfl⟩

end Go.Proofs.Ytedbdejhpjkofaa
