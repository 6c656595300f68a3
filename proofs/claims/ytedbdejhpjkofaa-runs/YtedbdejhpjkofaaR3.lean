import Derived.Test.YtedbdejhpjkofaaR2
import Derived.Test.YtedbdejhpjkofaaPlain7
namespace Go.Proofs.Ytedbdejhpjkofaa
open Go.RowKit Go.Maps
set_option linter.unusedVariables false
set_option linter.unusedSimpArgs false

/-- marks lie behind a slice's address -/
def HoldsM (w : World) (ao : Option Addr) (ms : List Hd.Mark) : Prop :=
  ∀ i (h : i < ms.length), ∃ g, ao = some ⟨g, 0, none⟩ ∧ g < w.heap.size ∧ w.cell? ⟨g, i * 3, none⟩ = some (.int .i64 (ms[i]).key) ∧ w.cell? ⟨g, i * 3 + 1, none⟩ = some (.int .i64 (ms[i]).val) ∧ w.cell? ⟨g, i * 3 + 2, none⟩ = some (.bool (ms[i]).is)

theorem holdsL_alloc {w : World} {ao : Option Addr} {Ps : List (Int × Int)} (h : HoldsL w ao Ps) (o : Obj) : HoldsL (w.alloc o) ao Ps := by
  intro i hi
  obtain ⟨g, h1, h2, h3, h4⟩ := h i hi
  have e : ∀ x, (w.alloc o).cell? ⟨g, x, none⟩ = w.cell? ⟨g, x, none⟩ := fun x => World.cell?_of_block (a := ⟨g, x, none⟩) (Below.heap_alloc w o g h2)
  exact ⟨g, h1, by simp; omega, (e _).trans h3, (e _).trans h4⟩

theorem take_pred {α : Type} (ms : List α) (k : Nat) (hk : k < ms.length) : ms.take (k + 1) = ms.take k ++ [ms[k]] := by simp

set_option maxRecDepth 100000 in
set_option maxHeartbeats 1000000 in
theorem sees_any (st tv rv : Value) (wo : Option Addr) (wc : Nat) (ms : List Hd.Mark) (ao : Option Addr) (cap : Nat) (L : List (Int × Int)) (key : Int) (w : World) (hM : HoldsM w wo ms) (hm : ms.length ≤ 256) (hp : Hd.plainM ms) (hL : HoldsL w ao L) (hn : L.length ≤ 8796093022207) :
    Calls Try.prog 39 #[.agg #[st, tv, rv, .slice wo ms.length wc], .slice ao L.length cap, .int .i64 key] w fun e w' => e = .returned (.tuple #[.int .i64 (Hd.seenV (Hd.ofPairs L) ms key), .bool (Hd.seenB (Hd.ofPairs L) ms key)]) ∧ Below w.heap.size w w' := by
  go_enter Try.func39, Try.ntmps39
  have hu := under_any ao cap L key (w.alloc (.cells #[st, tv, rv, .slice wo ms.length wc] 78)) (holdsL_alloc hL _) hn
  have HP : Hid (Hd.plainM ms) := hp
  clear hp hL
  have hmi : (ms.length : Int) ≤ 256 := by omega
  have hmi0 : (0 : Int) ≤ (ms.length : Int) := by omega
  go_wp2
  go_loop [8] (fun j => ∃ k : Nat, k ≤ ms.length ∧ j = .int .i64 ((k : Int) - 1) ∧ Hd.lastM ms key = Hd.lastM (ms.take k) key) (fun j => (intOf j + 1).toNat)
  case atStart => exact ⟨ms.length, Nat.le_refl _, by go_num, by rw [List.take_length]⟩
  case round =>
    obtain ⟨k, hk, rfl, hlast⟩ := hrel
    cases k with
    | zero =>
      have HN : Hid (Hd.lastM ms key = none) := hlast
      clear hlast
      go_wp2_with fail
      refine hu.mono ?_
      rintro e w' ⟨rfl, rfl⟩
      go_wp2
      go_ret2
      obtain ⟨h1, h2⟩ := Hd.seen_none (Hd.ofPairs L) ms key HN.out
      rw [h1, h2]
      exact ⟨rfl, (Below.refl _ _).alloc (Nat.le_refl _) _⟩
    | succ k =>
      obtain ⟨g, rfl, hg, c0, c1, c2⟩ := hM k (by omega)
      have b0 := (World.cell?_of_block (a := ⟨g, k * 3, none⟩) (Below.heap_alloc w (.cells #[st, tv, rv, .slice (some ⟨g, 0, none⟩) ms.length wc] 78) g hg)).trans c0
      have b1 := (World.cell?_of_block (a := ⟨g, k * 3 + 1, none⟩) (Below.heap_alloc w (.cells #[st, tv, rv, .slice (some ⟨g, 0, none⟩) ms.length wc] 78) g hg)).trans c1
      have b2 := (World.cell?_of_block (a := ⟨g, k * 3 + 2, none⟩) (Below.heap_alloc w (.cells #[st, tv, rv, .slice (some ⟨g, 0, none⟩) ms.length wc] 78) g hg)).trans c2
      rw [take_pred ms k (by omega), Hd.lastM_snoc] at hlast
      have hki : (((k + 1 : Nat) : Int) - 1) = (k : Int) := by omega
      rw [hki]
      have hk0 : (0 : Int) ≤ (k : Int) := by omega
      have hk1 : (k : Int) < (ms.length : Int) := by omega
      clear c0 c1 c2 hki
      by_cases he : (ms[k]).key = key
      · rw [if_pos he] at hlast
        have Hs : Hid (Hd.seenV (Hd.ofPairs L) ms key = (ms[k]).val ∧ Hd.seenB (Hd.ofPairs L) ms key = (ms[k]).is) := Hd.seen_some _ _ _ _ HP.out hlast
        rw [he] at b0
        have hbe : (key == key) = true := by simp
        clear hlast he HP
        generalize (ms[k]).val = x at *
        generalize (ms[k]).is = y at *
        go_wp2
        go_quiet (fail)
        go_wp2
        go_ret2
        rw [Hs.out.1, Hs.out.2]
        exact ⟨rfl, Below.drewN' ((Below.refl _ _).alloc (Nat.le_refl _) _) _⟩
      · rw [if_neg he] at hlast
        have hne : ((ms[k]).key == key) = false := by simpa using he
        have Hl : Hid (Hd.lastM ms key = Hd.lastM (ms.take k) key) := hlast
        clear hlast he
        generalize (ms[k]).key = x at *
        go_wp2
        go_round
        case rel => exact ⟨k, by omega, by go_num, Hl.out⟩
        case measure => simp [intOf] <;> omega

end Go.Proofs.Ytedbdejhpjkofaa
