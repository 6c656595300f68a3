import Derived.Test.YtedbdejhpjkofaaR3
import Derived.Test.YtedbdejhpjkofaaU10
import Derived.Maps.AppendAt
namespace Go.Proofs.Ytedbdejhpjkofaa
open Go.RowKit Go.Maps
set_option linter.unusedVariables false
set_option linter.unusedSimpArgs false

def rcells (rs : List Int) : Array Value := (rs.map (Value.int .i64)).toArray
def markCells (ms : List Hd.Mark) : List Value := ms.flatMap (fun m => [.int .i64 m.key, .int .i64 m.val, .bool m.is])

theorem markCells_snoc (ms : List Hd.Mark) (m : Hd.Mark) : markCells (ms ++ [m]) = markCells ms ++ [.int .i64 m.key, .int .i64 m.val, .bool m.is] := by simp [markCells]

theorem markCells_get (L : List Hd.Mark) (i : Nat) (hi : i < L.length) : (markCells L)[i * 3]? = some (.int .i64 (L[i]).key) ∧ (markCells L)[i * 3 + 1]? = some (.int .i64 (L[i]).val) ∧ (markCells L)[i * 3 + 2]? = some (.bool (L[i]).is) := by
  induction L generalizing i with
  | nil => simp at hi
  | cons x r ih =>
    have e : markCells (x :: r) = .int .i64 x.key :: .int .i64 x.val :: .bool x.is :: markCells r := rfl
    rw [e]
    cases i with
    | zero => exact ⟨rfl, rfl, rfl⟩
    | succ i =>
      have := ih i (by simpa using hi)
      have e1 : (i + 1) * 3 = i * 3 + 1 + 1 + 1 := by omega
      rw [e1]
      simpa using this

theorem holdsM_own {w : World} {base cap : Nat} {L : List Hd.Mark} {ao : Option Addr} (h : w.ownsRow base 75 3 (.slice ao L.length cap) L.length (markCells L)) : HoldsM w ao L := by
  intro i hi
  rcases h.2 with ⟨hv, hz⟩ | ⟨g, cap', cur, hv, hbase, hg, _⟩
  · omega
  · simp only [Value.slice.injEq] at hv
    obtain ⟨rfl, _, rfl⟩ := hv
    obtain ⟨h1, h2, h3⟩ := markCells_get L i hi
    have c0 := h.cells (g := g) rfl _ _ h1
    have c1 := h.cells (g := g) rfl _ _ h2
    have c2 := h.cells (g := g) rfl _ _ h3
    rw [add_at] at c0 c1 c2
    exact ⟨g, rfl, (Array.getElem?_eq_some_iff.1 hg).1, c0, c1, c2⟩

theorem xfree {w : World} {bm t : Nat} {cs : Array Value} (hM : w.heap[bm]? = some (.cells cs t (0, 0))) (a : Nat) : w.frozen? ⟨bm, a, none⟩ = false := by
  simp [World.frozen?, hM]

theorem xreg {w : World} {br : Nat} {rs : List Int} (h : w.heap[br]? = some (.cells (rcells rs) 80 (0, 0))) (a : Nat) (ha : a < rs.length) : w.cell? ⟨br, a, none⟩ = some (.int .i64 (rs.getD a 0)) := by
  rw [cell_of_row w br a _ 80 (0, 0) h]
  simp [rcells, ha]

theorem x_set {w : World} {br : Nat} {rs : List Int} (h : w.heap[br]? = some (.cells (rcells rs) 80 (0, 0))) (a : Nat) (v : Int) :
    (w.setCell ⟨br, a, none⟩ (.int .i64 v)).heap[br]? = some (.cells (rcells (rs.set a v)) 80 (0, 0)) := by
  rw [heap_setCell_same w br a _ 80 _ h]
  congr 2
  apply Array.ext'
  simp [rcells, List.map_set]

/-- how executed stands: d's block, the registers, the rows of what was told, read and written -/
structure Exec (w : World) (base bd br : Nat) (tv rv wv : Value) (R : List Int) (ms : List Hd.Mark) (s : Hd.St) : Prop where
  d : w.heap[bd]? = some (.cells #[.int .i64 2, tv, rv, wv] 78 (0, 0))
  r : w.heap[br]? = some (.cells (rcells s.rs) 80 (0, 0))
  len : s.rs.length = 8
  told : w.ownsRow base 3 1 tv s.T.length (s.T.map (Value.int .i64))
  reads : w.ownsRow base 3 1 rv R.length (R.map (Value.int .i64))
  writes : w.ownsRow base 75 3 wv ms.length (markCells ms)
  apart : ∀ k, tv.ownBlock = some k → ¬ rv.ownBlock = some k
  hR : s.R = R
  W : s.W = Hd.marksW ms
  plain : Hd.plainM ms
  l1 : bd < base
  l2 : br < base
  l3 : bd ≠ br

theorem Exec.keep {w w' : World} {S : Nat → Prop} {base bd br : Nat} {tv rv wv : Value} {R : List Int} {ms : List Hd.Mark} {s : Hd.St} (h : Exec w base bd br tv rv wv R ms s) (hk : Keeps S w w') (hS : ∀ k, S k → w.heap.size ≤ k) : Exec w' base bd br tv rv wv R ms s := by
  have out : ∀ {v n e size xs}, w.ownsRow base e size v n xs → ∀ k, v.ownBlock = some k → ¬ S k := fun h k hk hs => by
    have := (h.lt k hk).2
    have := hS k hs
    omega
  refine ⟨m_later h.d hk (fun x => ?_), m_later h.r hk (fun x => ?_), h.len, own_keeps h.told hk (out h.told), own_keeps h.reads hk (out h.reads), own_keeps h.writes hk (out h.writes), h.apart, h.hR, h.W, h.plain, h.l1, h.l2, h.l3⟩
  · have := hS _ x; have := (Array.getElem?_eq_some_iff.1 h.d).1; omega
  · have := hS _ x; have := (Array.getElem?_eq_some_iff.1 h.r).1; omega

theorem Exec.below {w w' : World} {base bd br : Nat} {tv rv wv : Value} {R : List Int} {ms : List Hd.Mark} {s : Hd.St} (h : Exec w base bd br tv rv wv R ms s) (hk : Below w.heap.size w w') : Exec w' base bd br tv rv wv R ms s :=
  h.keep (Below.keeps (S := fun _ => False) hk) (fun _ h => h.elim)

theorem Exec.drewN {w : World} {base bd br : Nat} {tv rv wv : Value} {R : List Int} {ms : List Hd.Mark} {s : Hd.St} (h : Exec w base bd br tv rv wv R ms s) (n : Nat) : Exec (w.drewN n) base bd br tv rv wv R ms s :=
  ⟨h.d, h.r, h.len, h.told, h.reads, h.writes, h.apart, h.hR, h.W, h.plain, h.l1, h.l2, h.l3⟩

theorem Exec.setReg {w : World} {base bd br : Nat} {tv rv wv : Value} {R : List Int} {ms : List Hd.Mark} {s : Hd.St} (h : Exec w base bd br tv rv wv R ms s) (a : Nat) (v : Int) : Exec (w.setCell ⟨br, a, none⟩ (.int .i64 v)) base bd br tv rv wv R ms { s with rs := s.rs.set a v } :=
  ⟨(Below.heap_setCell w ⟨br, a, none⟩ _ bd h.l3).trans h.d, x_set h.r a v, by simpa using h.len, own_set h.told (own_ge2 h.told h.l2) _, own_set h.reads (own_ge2 h.reads h.l2) _, own_set h.writes (own_ge2 h.writes h.l2) _, h.apart, h.hR, h.W, h.plain, h.l1, h.l2, h.l3⟩

theorem d_set1 {w : World} {bd : Nat} {s0 tv rv wv : Value} (h : w.heap[bd]? = some (.cells #[s0, tv, rv, wv] 78 (0, 0))) (v : Value) : (w.setCell ⟨bd, 1, none⟩ v).heap[bd]? = some (.cells #[s0, v, rv, wv] 78 (0, 0)) := by
  rw [heap_setCell_same w bd 1 _ 78 _ h]; rfl
theorem d_set2 {w : World} {bd : Nat} {s0 tv rv wv : Value} (h : w.heap[bd]? = some (.cells #[s0, tv, rv, wv] 78 (0, 0))) (v : Value) : (w.setCell ⟨bd, 2, none⟩ v).heap[bd]? = some (.cells #[s0, tv, v, wv] 78 (0, 0)) := by
  rw [heap_setCell_same w bd 2 _ 78 _ h]; rfl
theorem d_set3 {w : World} {bd : Nat} {s0 tv rv wv : Value} (h : w.heap[bd]? = some (.cells #[s0, tv, rv, wv] 78 (0, 0))) (v : Value) : (w.setCell ⟨bd, 3, none⟩ v).heap[bd]? = some (.cells #[s0, tv, rv, v] 78 (0, 0)) := by
  rw [heap_setCell_same w bd 3 _ 78 _ h]; rfl

/-- a read more: its row has grown, and stands in d -/
theorem Exec.read {w w' : World} {base bd br : Nat} {tv rv rv' wv : Value} {R : List Int} {ms : List Hd.Mark} {s : Hd.St} (h : Exec w base bd br tv rv wv R ms s) (k : Int) (hg : w.grownBy w' rv.ownBlock) (ho : w'.ownsRow base 3 1 rv' (R.length + 1) (R.map (Value.int .i64) ++ [.int .i64 k])) (hn : rv'.ownBlock = rv.ownBlock ∨ rv'.ownBlock = some w.heap.size) :
    w'.heap[bd]? = some (.cells #[.int .i64 2, tv, rv, wv] 78 (0, 0)) ∧ Exec (w'.setCell ⟨bd, 2, none⟩ rv') base bd br tv rv' wv (R ++ [k]) ms { s with R := s.R ++ [k] } := by
  have hk : Keeps (fun j => rv.ownBlock = some j) w w' := (Keeps.refl _ w).grown hg (fun k e => .inr e)
  have hd := m_later h.d hk (own_ge2 h.reads h.l1)
  have hr := m_later h.r hk (own_ge2 h.reads h.l2)
  have ht := own_keeps h.told hk (fun k e e2 => h.apart k e e2)
  have hw := own_keeps h.writes hk (fun k e e2 => rows_ne h.writes h.reads (by decide) (by rw [e]; simp) (e.trans e2.symm))
  refine ⟨hd, d_set2 hd _, (Below.heap_setCell w' ⟨bd, 2, none⟩ _ br (Ne.symm h.l3)).trans hr, h.len, own_set ht (own_ge2 ht h.l1) _, ?_, own_set hw (own_ge2 hw h.l1) _, ?_, by show s.R ++ [k] = R ++ [k]; rw [h.hR], h.W, h.plain, h.l1, h.l2, h.l3⟩
  · have := own_set (p := ⟨bd, 2, none⟩) ho (own_ge2 ho h.l1) rv'
    simpa using this
  · intro j hj hj2
    rcases hn with e | e
    · exact h.apart j hj (e ▸ hj2)
    · rw [e] at hj2
      have := (h.told.lt j hj).2
      simp at hj2
      omega

theorem Exec.tell {w w' : World} {base bd br : Nat} {tv tv' rv wv : Value} {R : List Int} {ms : List Hd.Mark} {s : Hd.St} (h : Exec w base bd br tv rv wv R ms s) (k : Int) (hg : w.grownBy w' tv.ownBlock) (ho : w'.ownsRow base 3 1 tv' (s.T.length + 1) (s.T.map (Value.int .i64) ++ [.int .i64 k])) (hn : tv'.ownBlock = tv.ownBlock ∨ tv'.ownBlock = some w.heap.size) :
    w'.heap[bd]? = some (.cells #[.int .i64 2, tv, rv, wv] 78 (0, 0)) ∧ Exec (w'.setCell ⟨bd, 1, none⟩ tv') base bd br tv' rv wv R ms { s with T := s.T ++ [k] } := by
  have hk : Keeps (fun j => tv.ownBlock = some j) w w' := (Keeps.refl _ w).grown hg (fun k e => .inr e)
  have hd := m_later h.d hk (own_ge2 h.told h.l1)
  have hr := m_later h.r hk (own_ge2 h.told h.l2)
  have ht := own_keeps h.reads hk (fun k e e2 => h.apart k e2 e)
  have hw := own_keeps h.writes hk (fun k e e2 => rows_ne h.writes h.told (by decide) (by rw [e]; simp) (e.trans e2.symm))
  refine ⟨hd, d_set1 hd _, (Below.heap_setCell w' ⟨bd, 1, none⟩ _ br (Ne.symm h.l3)).trans hr, h.len, ?_, own_set ht (own_ge2 ht h.l1) _, own_set hw (own_ge2 hw h.l1) _, ?_, h.hR, h.W, h.plain, h.l1, h.l2, h.l3⟩
  · have := own_set (p := ⟨bd, 1, none⟩) ho (own_ge2 ho h.l1) tv'
    simpa using this
  · intro j hj hj2
    rcases hn with e | e
    · exact h.apart j (e ▸ hj) hj2
    · rw [e] at hj
      have := (h.reads.lt j hj2).2
      simp at hj
      omega

theorem Exec.write {w w' : World} {base bd br : Nat} {tv rv wv wv' : Value} {R : List Int} {ms : List Hd.Mark} {s : Hd.St} (h : Exec w base bd br tv rv wv R ms s) (m : Hd.Mark) (hm : m.is = false → m.val = 0) (hg : w.grownBy w' wv.ownBlock) (ho : w'.ownsRow base 75 3 wv' (ms.length + 1) (markCells ms ++ [.int .i64 m.key, .int .i64 m.val, .bool m.is])) :
    w'.heap[bd]? = some (.cells #[.int .i64 2, tv, rv, wv] 78 (0, 0)) ∧ Exec (w'.setCell ⟨bd, 3, none⟩ wv') base bd br tv rv wv' R (ms ++ [m]) { s with W := Hd.upd s.W m.key (some (if m.is then some m.val else none)) } := by
  have hk : Keeps (fun j => wv.ownBlock = some j) w w' := (Keeps.refl _ w).grown hg (fun k e => .inr e)
  have hd := m_later h.d hk (own_ge2 h.writes h.l1)
  have hr := m_later h.r hk (own_ge2 h.writes h.l2)
  have ht := own_keeps h.reads hk (fun k e e2 => rows_ne h.reads h.writes (by decide) (by rw [e]; simp) (e.trans e2.symm))
  have hw := own_keeps h.told hk (fun k e e2 => rows_ne h.told h.writes (by decide) (by rw [e]; simp) (e.trans e2.symm))
  refine ⟨hd, d_set3 hd _, (Below.heap_setCell w' ⟨bd, 3, none⟩ _ br (Ne.symm h.l3)).trans hr, h.len, own_set hw (own_ge2 hw h.l1) _, own_set ht (own_ge2 ht h.l1) _, ?_, h.apart, h.hR, ?_, Hd.plainM_snoc _ _ h.plain hm, h.l1, h.l2, h.l3⟩
  · have := own_set (p := ⟨bd, 3, none⟩) ho (own_ge2 ho h.l1) wv'
    rw [markCells_snoc]
    simpa using this
  · show Hd.upd s.W m.key _ = _
    rw [Hd.marksW_snoc, h.W]

end Go.Proofs.Ytedbdejhpjkofaa
