import Derived.Test.YtedbdejhpjkofaaR5
import Derived.Deep.AppendLies
import Derived.Deep.RegionLaw
import Derived.Laws.OwnMore
namespace Go.Proofs.Ytedbdejhpjkofaa
open Go.RowKit Go.Maps
set_option linter.unusedVariables false
set_option linter.unusedSimpArgs false

set_option maxRecDepth 100000 in
set_option maxHeartbeats 1000000 in
theorem lawSame_yes (ao bo : Option Addr) (ca cb : Nat) (xs : List Int) (w : World) (hl : xs.length ≤ 1000) (ha : HoldsN w ao xs) (hb : HoldsN w bo xs) :
    Calls Try.prog 31 #[.slice ao xs.length ca, .slice bo xs.length cb] w fun e w' => e = .returned (.bool true) ∧ ∃ q, w' = w.drewN q := by
  have hbl : ((xs.length : Int) != (xs.length : Int)) = false := by simp
  go_enter Try.func31, Try.ntmps31
  go_wp2
  go_loopw [5] (fun i wr => ∃ k : Nat, k ≤ xs.length ∧ i = .int .i64 k ∧ ∃ q, wr = w.drewN q) (fun i _ => xs.length - (intOf i).toNat)
  case atStart => exact ⟨0, Nat.zero_le _, rfl, 0, rfl⟩
  case round =>
    obtain ⟨k, hk, rfl, q, rfl⟩ := hrel
    by_cases hlt : k < xs.length
    · obtain ⟨g1, rfl, c1⟩ := ha k hlt
      obtain ⟨g2, rfl, c2⟩ := hb k hlt
      have hk0 : (0 : Int) ≤ (k : Int) := by omega
      have hk1 : (k : Int) < (xs.length : Int) := by omega
      have hne : (xs[k] != xs[k]) = false := by simp
      clear ha hb
      generalize xs[k] = x at *
      go_wp2
      go_quiet (fail)
      go_wp2
      go_roundw
      case rel => exact ⟨k + 1, by omega, by go_num, _, rfl⟩
      case measure => simp [intOf]; omega
    · go_wp2
      go_ret
      exact ⟨rfl, _, rfl⟩

set_option maxRecDepth 100000 in
set_option maxHeartbeats 1000000 in
theorem lawSameP_yes (ao bo : Option Addr) (ca cb : Nat) (xs : List (Int × Int)) (w : World) (hl : xs.length ≤ 8796093022300) (ha : HoldsL w ao xs) (hb : HoldsL w bo xs) :
    Calls Try.prog 32 #[.slice ao xs.length ca, .slice bo xs.length cb] w fun e w' => e = .returned (.bool true) ∧ ∃ q, w' = w.drewN q := by
  have hbl : ((xs.length : Int) != (xs.length : Int)) = false := by simp
  have hpe := pair_neq
  have hpg := pair_guard
  go_enter Try.func32, Try.ntmps32
  go_wp2
  go_loopw [5] (fun i wr => ∃ k : Nat, k ≤ xs.length ∧ i = .int .i64 k ∧ ∃ q, wr = w.drewN q) (fun i _ => xs.length - (intOf i).toNat)
  case atStart => exact ⟨0, Nat.zero_le _, rfl, 0, rfl⟩
  case round =>
    obtain ⟨k, hk, rfl, q, rfl⟩ := hrel
    by_cases hlt : k < xs.length
    · obtain ⟨g1, rfl, h1, c1, d1⟩ := ha k hlt
      obtain ⟨g2, rfl, h2, c2, d2⟩ := hb k hlt
      have hk0 : (0 : Int) ≤ (k : Int) := by omega
      have hk1 : (k : Int) < (xs.length : Int) := by omega
      have hne : (!((xs[k]).1 == (xs[k]).1 && (xs[k]).2 == (xs[k]).2)) = false := by simp
      clear ha hb
      generalize (xs[k]).1 = x at *
      generalize (xs[k]).2 = y at *
      go_wp2
      go_quiet (fail)
      go_wp2
      go_roundw
      case rel => exact ⟨k + 1, by omega, by go_num, _, rfl⟩
      case measure => simp [intOf]; omega
    · go_wp2
      go_ret
      exact ⟨rfl, _, rfl⟩

/-- a list that came out, and the number that its owner wrote into it -/
structure Ent where
  ao : Option Addr
  len : Nat
  cap : Nat
  n : Int

def entCells (es : List Ent) : List Value := es.flatMap (fun e => [.slice e.ao e.len e.cap, .int .i64 e.n])

theorem entCells_snoc (es : List Ent) (e : Ent) : entCells (es ++ [e]) = entCells es ++ [.slice e.ao e.len e.cap, .int .i64 e.n] := by simp [entCells]

theorem entCells_get (L : List Ent) (i : Nat) (hi : i < L.length) : (entCells L)[i * 2]? = some (.slice (L[i]).ao (L[i]).len (L[i]).cap) ∧ (entCells L)[i * 2 + 1]? = some (.int .i64 (L[i]).n) := by
  induction L generalizing i with
  | nil => simp at hi
  | cons x r ih =>
    have e : entCells (x :: r) = .slice x.ao x.len x.cap :: .int .i64 x.n :: entCells r := rfl
    rw [e]
    cases i with
    | zero => exact ⟨rfl, rfl⟩
    | succ i =>
      have := ih i (by simpa using hi)
      have e1 : (i + 1) * 2 = i * 2 + 1 + 1 := by omega
      rw [e1]
      simpa using this

/-- the list reads as its owner wrote it; its block lies below B -/
def FullN (w : World) (B : Nat) (e : Ent) : Prop :=
  e.len ≤ 8796093022300 ∧ ∀ i, i < e.len → ∃ g, e.ao = some ⟨g, 0, none⟩ ∧ g < B ∧ (∃ cs, w.heap[g]? = some (.cells cs 3 (0, 0))) ∧ w.cell? ⟨g, i, none⟩ = some (.int .i64 e.n)
def FullP (w : World) (B : Nat) (e : Ent) : Prop :=
  e.len ≤ 8796093022300 ∧ ∀ i, i < e.len → ∃ g, e.ao = some ⟨g, 0, none⟩ ∧ g < B ∧ (∃ cs, w.heap[g]? = some (.cells cs 44 (0, 0))) ∧ w.cell? ⟨g, i * 2, none⟩ = some (.int .i64 e.n) ∧ w.cell? ⟨g, i * 2 + 1, none⟩ = some (.int .i64 e.n)

theorem FullN.keep {w w' : World} {B B' : Nat} {S : Nat → Prop} {e : Ent} (h : FullN w B e) (hk : Keeps S w w') (hS : ∀ g cs, g < B → w.heap[g]? = some (.cells cs 3 (0, 0)) → ¬ S g) (hB : B ≤ B') : FullN w' B' e := by
  refine ⟨h.1, fun i hi => ?_⟩
  obtain ⟨g, h1, h2, ⟨cs, h3⟩, h4⟩ := h.2 i hi
  have hlt : g < w.heap.size := (Array.getElem?_eq_some_iff.1 h3).1
  have hb := hk.block g hlt (hS g cs h2 h3)
  exact ⟨g, h1, by omega, ⟨cs, hb.trans h3⟩, (World.cell?_of_block (a := ⟨g, i, none⟩) hb).trans h4⟩
theorem FullP.keep {w w' : World} {B B' : Nat} {S : Nat → Prop} {e : Ent} (h : FullP w B e) (hk : Keeps S w w') (hS : ∀ g cs, g < B → w.heap[g]? = some (.cells cs 44 (0, 0)) → ¬ S g) (hB : B ≤ B') : FullP w' B' e := by
  refine ⟨h.1, fun i hi => ?_⟩
  obtain ⟨g, h1, h2, ⟨cs, h3⟩, h4, h5⟩ := h.2 i hi
  have hlt : g < w.heap.size := (Array.getElem?_eq_some_iff.1 h3).1
  have hb := hk.block g hlt (hS g cs h2 h3)
  exact ⟨g, h1, by omega, ⟨cs, hb.trans h3⟩, (World.cell?_of_block (a := ⟨g, i * 2, none⟩) hb).trans h4, (World.cell?_of_block (a := ⟨g, i * 2 + 1, none⟩) hb).trans h5⟩
theorem FullN.lift {w : World} {B B' : Nat} {e : Ent} (h : FullN w B e) (hB : w.heap.size ≤ B') : FullN w B' e := by
  refine ⟨h.1, fun i hi => ?_⟩
  obtain ⟨g, h1, h2, ⟨cs, h3⟩, h4⟩ := h.2 i hi
  have hlt : g < w.heap.size := (Array.getElem?_eq_some_iff.1 h3).1
  exact ⟨g, h1, by omega, ⟨cs, h3⟩, h4⟩
theorem FullP.lift {w : World} {B B' : Nat} {e : Ent} (h : FullP w B e) (hB : w.heap.size ≤ B') : FullP w B' e := by
  refine ⟨h.1, fun i hi => ?_⟩
  obtain ⟨g, h1, h2, ⟨cs, h3⟩, h4⟩ := h.2 i hi
  have hlt : g < w.heap.size := (Array.getElem?_eq_some_iff.1 h3).1
  exact ⟨g, h1, by omega, ⟨cs, h3⟩, h4⟩

/-- how the book stands: its block, its two rows, and what they name -/
structure Book (w : World) (B base bb : Nat) (n : Int) (iv pv : Value) (is ps : List Ent) : Prop where
  blk : w.heap[bb]? = some (.cells #[.int .i64 n, iv, pv] 32 (0, 0))
  ints : w.ownsRow base 50 2 iv is.length (entCells is)
  pairs : w.ownsRow base 52 2 pv ps.length (entCells ps)
  fi : ∀ e, e ∈ is → FullN w B e
  fp : ∀ e, e ∈ ps → FullP w B e
  low : bb < base
  few : is.length ≤ 100
  fewp : ps.length ≤ 100

theorem Book.keep {w w' : World} {B B' base bb : Nat} {n : Int} {iv pv : Value} {is ps : List Ent} {S : Nat → Prop} (h : Book w B base bb n iv pv is ps) (hk : Keeps S w w') (h1 : ¬ S bb) (h2 : ∀ k, iv.ownBlock = some k → ¬ S k) (h3 : ∀ k, pv.ownBlock = some k → ¬ S k) (h4 : ∀ g, g < B → ¬ S g) (hB : B ≤ B') : Book w' B' base bb n iv pv is ps :=
  ⟨m_later h.blk hk h1, own_keeps h.ints hk h2, own_keeps h.pairs hk h3, fun e he => (h.fi e he).keep hk (fun g _ hg _ => h4 g hg) hB, fun e he => (h.fp e he).keep hk (fun g _ hg _ => h4 g hg) hB, h.low, h.few, h.fewp⟩
theorem Book.lift {w : World} {B : Nat} {base bb : Nat} {n : Int} {iv pv : Value} {is ps : List Ent} (h : Book w B base bb n iv pv is ps) : Book w w.heap.size base bb n iv pv is ps :=
  ⟨h.blk, h.ints, h.pairs, fun e he => (h.fi e he).lift (Nat.le_refl _), fun e he => (h.fp e he).lift (Nat.le_refl _), h.low, h.few, h.fewp⟩
theorem Book.below {w w' : World} {base bb : Nat} {n : Int} {iv pv : Value} {is ps : List Ent} (h : Book w w.heap.size base bb n iv pv is ps) (hk : Below w.heap.size w w') : Book w' w.heap.size base bb n iv pv is ps :=
  h.keep (Below.keeps (S := fun _ => False) hk) (fun x => x) (fun _ _ x => x) (fun _ _ x => x) (fun _ _ x => x) (Nat.le_refl _)

theorem book_cells {w : World} {bb : Nat} {a b c : Value} (h : w.heap[bb]? = some (.cells #[a, b, c] 32 (0, 0))) : w.cell? ⟨bb, 0, none⟩ = some a ∧ w.cell? ⟨bb, 1, none⟩ = some b ∧ w.cell? ⟨bb, 2, none⟩ = some c ∧ ∀ o, w.frozen? ⟨bb, o, none⟩ = false := by
  refine ⟨?_, ?_, ?_, fun o => by simp [World.frozen?, h]⟩
  · rw [cell_of_row _ bb 0 _ 32 (0, 0) h]; rfl
  · rw [cell_of_row _ bb 1 _ 32 (0, 0) h]; rfl
  · rw [cell_of_row _ bb 2 _ 32 (0, 0) h]; rfl

theorem row_ent {w : World} {base e cap : Nat} {L : List Ent} {ao : Option Addr} (h : w.ownsRow base e 2 (.slice ao L.length cap) L.length (entCells L)) (i : Nat) (hi : i < L.length) : ∃ g, ao = some ⟨g, 0, none⟩ ∧ g < w.heap.size ∧ w.cell? ⟨g, i * 2, none⟩ = some (.slice (L[i]).ao (L[i]).len (L[i]).cap) ∧ w.cell? ⟨g, i * 2 + 1, none⟩ = some (.int .i64 (L[i]).n) := by
  rcases h.2 with ⟨hv, hz⟩ | ⟨g, cap', cur, hv, hbase, hg, _⟩
  · omega
  · simp only [Value.slice.injEq] at hv
    obtain ⟨rfl, _, rfl⟩ := hv
    obtain ⟨h1, h2⟩ := entCells_get L i hi
    have c0 := h.cells (g := g) rfl _ _ h1
    have c1 := h.cells (g := g) rfl _ _ h2
    rw [add_at] at c0 c1
    exact ⟨g, rfl, (Array.getElem?_eq_some_iff.1 hg).1, c0, c1⟩

set_option maxRecDepth 100000 in
set_option maxHeartbeats 4000000 in
theorem looks_yes (w : World) (B base bb : Nat) (n : Int) (iv pv : Value) (is ps : List Ent) (h : Book w B base bb n iv pv is ps) :
    Calls Try.prog 11 #[.pointer (some ⟨bb, 0, none⟩)] w fun e w' => e = .returned (.bool true) ∧ ∃ q, w' = w.drewN q := by
  obtain ⟨b0, b1, b2, _⟩ := book_cells h.blk
  obtain ⟨io, ic, rfl⟩ := own_form h.ints
  obtain ⟨po, pc, rfl⟩ := own_form h.pairs
  have hri := fun i hi => row_ent h.ints i hi
  have hrp := fun i hi => row_ent h.pairs i hi
  have hfi := h.fi
  have hfp := h.fp
  have hx1 := h.few
  have hx2 := h.fewp
  have hpe := pair_neq
  have hpg := pair_guard
  clear h
  go_enter Try.func11, Try.ntmps11
  go_wp2
  go_loopw [3] (fun i wr => ∃ k : Nat, k ≤ is.length ∧ i = .int .i64 k ∧ ∃ q, wr = w.drewN q) (fun i _ => is.length - (intOf i).toNat)
  case atStart => exact ⟨0, Nat.zero_le _, rfl, 0, rfl⟩
  case round =>
    obtain ⟨k, hk, rfl, q, rfl⟩ := hrel
    by_cases hlt : k < is.length
    · obtain ⟨g, rfl, hg, e0, e1⟩ := hri k hlt
      have hf := hfi is[k] (List.getElem_mem hlt)
      have hk0 : (0 : Int) ≤ (k : Int) := by omega
      have hk1 : (k : Int) < (is.length : Int) := by omega
      clear hri hrp hfi hfp
      generalize is[k] = E at *
      obtain ⟨hle, hall⟩ := hf
      go_wp2
      go_loopw [4] (fun i wr => ∃ k2 : Nat, k2 ≤ E.len ∧ i = .int .i64 k2 ∧ ∃ q, wr = w.drewN q) (fun i _ => E.len - (intOf i).toNat)
      case atStart => exact ⟨0, Nat.zero_le _, rfl, q, rfl⟩
      case round =>
        obtain ⟨k2, hk2, rfl, q2, rfl⟩ := hrel
        by_cases hlt2 : k2 < E.len
        · obtain ⟨g2, hao, hg2, _, c2⟩ := hall k2 hlt2
          have hk20 : (0 : Int) ≤ (k2 : Int) := by omega
          have hk21 : (k2 : Int) < (E.len : Int) := by omega
          rw [hao] at e0
          have hne : (E.n != E.n) = false := by simp
          clear hall
          generalize E.n = en at *
          go_wp2
          go_quiet (fail)
          go_wp2
          go_roundw
          case rel => exact ⟨k2 + 1, by omega, by go_num, _, rfl⟩
          case measure => simp [intOf]; omega
        · go_wp2
          go_roundw
          case rel => exact ⟨k + 1, by omega, by go_num, _, rfl⟩
          case measure => simp [intOf]; omega
    · go_wp2
      go_loopw [5] (fun i wr => ∃ k : Nat, k ≤ ps.length ∧ i = .int .i64 k ∧ ∃ q, wr = w.drewN q) (fun i _ => ps.length - (intOf i).toNat)
      case atStart => exact ⟨0, Nat.zero_le _, rfl, q, rfl⟩
      case round =>
        obtain ⟨k3, hk3, rfl, q3, rfl⟩ := hrel
        by_cases hlt3 : k3 < ps.length
        · obtain ⟨g, rfl, hg, e0, e1⟩ := hrp k3 hlt3
          have hf := hfp ps[k3] (List.getElem_mem hlt3)
          have hk0 : (0 : Int) ≤ (k3 : Int) := by omega
          have hk1 : (k3 : Int) < (ps.length : Int) := by omega
          clear hri hrp hfi hfp
          generalize ps[k3] = E at *
          obtain ⟨hle, hall⟩ := hf
          go_wp2
          go_loopw [6] (fun i wr => ∃ k2 : Nat, k2 ≤ E.len ∧ i = .int .i64 k2 ∧ ∃ q, wr = w.drewN q) (fun i _ => E.len - (intOf i).toNat)
          case atStart => exact ⟨0, Nat.zero_le _, rfl, q3, rfl⟩
          case round =>
            obtain ⟨k2, hk2, rfl, q2, rfl⟩ := hrel
            by_cases hlt2 : k2 < E.len
            · obtain ⟨g2, hao, hg2, _, c2, c3⟩ := hall k2 hlt2
              have hk20 : (0 : Int) ≤ (k2 : Int) := by omega
              have hk21 : (k2 : Int) < (E.len : Int) := by omega
              rw [hao] at e0
              have hne : (!(E.n == E.n && E.n == E.n)) = false := by simp
              clear hall
              generalize E.n = en at *
              go_wp2
              go_quiet (fail)
              go_wp2
              go_roundw
              case rel => exact ⟨k2 + 1, by omega, by go_num, _, rfl⟩
              case measure => simp [intOf]; omega
            · go_wp2
              go_roundw
              case rel => exact ⟨k3 + 1, by omega, by go_num, _, rfl⟩
              case measure => simp [intOf]; omega
        · go_wp2
          go_ret
          exact ⟨rfl, _, rfl⟩

end Go.Proofs.Ytedbdejhpjkofaa
