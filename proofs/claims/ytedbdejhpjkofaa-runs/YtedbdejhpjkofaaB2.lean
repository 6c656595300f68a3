import Derived.Test.YtedbdejhpjkofaaB1
import Derived.Deep.DeepAppendRoom
import Derived.Deep.DeepAppendWide
namespace Go.Proofs.Ytedbdejhpjkofaa
open Go.RowKit Go.Maps
set_option linter.unusedVariables false
set_option linter.unusedSimpArgs false

/-- an append: in its own block, or in a new one while the old one stays -/
theorem run_append_kept {P : Program} (w : World) (base : Nat) (t ty e : TypeId) (i : TypeInfo) (z : Value) (size bytes : Nat) (ht : P.underlying t = some (.slice e)) (hi : P.info? e = some i) (hz : i.zero = some z)
    (hsize : i.size = size) (hby : i.bytes = bytes) (hzs : z.cells.size = size) (hsz : 0 < size)
    (v : Value) (n : Nat) (xs : List Value) (hown : w.ownsRow base e size v n xs)
    (a : Addr) (m c : Nat) (news : List Value) (hl : news.length = m * size) (hnews : ∀ j u, news[j]? = some u → w.cell? (a.add j) = some u) (h1 : ∀ u ∈ news, u.oneCell' = true)
    (hm : 0 < m) (h63 : n + m ≤ maxLen) (hbytes : ((n + m) + (n + m) / 4 + 192) * bytes ≤ 281474976710656) (hbase : base ≤ w.heap.size) :
    ∃ g cap w', (Builtin.append_ #[t, t] ty #[v, .slice (some a) m c]).run P w = .ok (.slice (some ⟨g, 0, none⟩) (n + m) cap) w' ∧
      w'.ownsRow base e size (.slice (some ⟨g, 0, none⟩) (n + m) cap) (n + m) (xs ++ news) ∧ ((v.ownBlock = some g ∧ w.grownBy w' (some g)) ∨ (g = w.heap.size ∧ w.grownBy w' none)) := by
  obtain ⟨v', w', hr, h2, h3, _⟩ := run_append_own_wide (P := P) w base t ty e i z size bytes ht hi hz hsize hby hzs hsz v n xs hown a m c news hl hnews h1 h63 hbytes hbase
  obtain ⟨g, cap, rfl, _, hlt⟩ := h2.form (by omega)
  refine ⟨g, cap, w', hr, h2, ?_⟩
  have hsmall : n + m ≤ 9223372036854775807 := by simp only [maxLen] at h63; omega
  rcases hown.2 with ⟨rfl, rfl⟩ | ⟨g0, cap0, cur, rfl, hb0, hg0, hnc, hcm, hcs, htake⟩
  · right
    subst hsize
    subst hby
    have hr2 := run_append_nil (P := P) w t ty e i z ht hi hz a m c news hl hnews (by omega) (by omega) (by have hb := hbytes; simp only [Nat.zero_add] at hb; exact Nat.le_trans (Nat.mul_le_mul_right _ (by omega)) hb)
    rw [hr2] at hr
    simp only [Result.ok.injEq, Value.slice.injEq, Option.some.injEq, Addr.mk.injEq, and_true, true_and] at hr
    exact ⟨hr.1.1.symm, h3⟩
  · by_cases hroom : n + m ≤ cap0
    · left
      obtain ⟨w2, hr2, _, _⟩ := run_append_own_spare (P := P) w base t ty e i size ht hi hsize g0 n cap0 xs hown a m c news hl hnews h1 hroom
      rw [hr2] at hr
      simp only [Result.ok.injEq, Value.slice.injEq, Option.some.injEq, Addr.mk.injEq, and_true, true_and] at hr
      have e1 : g0 = g := hr.1.1
      subst e1
      exact ⟨rfl, h3⟩
    · right
      have holds : ∀ j u, xs[j]? = some u → w.cell? ((⟨g0, 0, none⟩ : Addr).add j) = some u := hown.cells (g := g0) rfl
      subst hsize
      subst hby
      have hr2 := run_append_grow (P := P) w t ty e i z ht hi hz ⟨g0, 0, none⟩ n cap0 xs hown.1 holds a m c news hl hnews (by omega) (by omega) (growslice_fits_wide (by omega) hbytes)
      rw [hr2] at hr
      simp only [Result.ok.injEq, Value.slice.injEq, Option.some.injEq, Addr.mk.injEq, and_true, true_and] at hr
      refine ⟨hr.1.1.symm, ?_⟩
      rw [← hr.2]
      exact ⟨rfl, rfl, rfl, by simp, fun k hk _ => Below.heap_alloc w.drew _ k hk⟩

theorem wpList_append_kept {P : Program} (w : World) {ops : Array Oper} {rest : List Oper} {o : Oper} {a : Act} {Q : Exit → Act → World → Prop} (hgd : o.guard = none) (s x : Operand) (t : TypeId)
    (ho : o.op = .call { callee := .builtin .append, args := #[s, x], argTypes := #[t, t] })
    (base : Nat) (e : TypeId) (i : TypeInfo) (z : Value) (size bytes : Nat) (ht : P.underlying t = some (.slice e)) (hi : P.info? e = some i) (hz : i.zero = some z)
    (hsize : i.size = size) (hby : i.bytes = bytes) (hzs : z.cells.size = size) (hsz : 0 < size)
    (v : Value) (n : Nat) (xs : List Value) (hs : a.eval s = v) (hown : w.ownsRow base e size v n xs)
    (ad : Addr) (m c : Nat) (news : List Value) (hx : a.eval x = .slice (some ad) m c) (hl : news.length = m * size) (hnews : ∀ j u, news[j]? = some u → w.cell? (ad.add j) = some u) (h1 : ∀ u ∈ news, u.oneCell' = true)
    (hm : 0 < m) (h63 : n + m ≤ maxLen) (hbytes : ((n + m) + (n + m) / 4 + 192) * bytes ≤ 281474976710656) (hbase : base ≤ w.heap.size)
    (h : ∀ g cap w', w'.ownsRow base e size (.slice (some ⟨g, 0, none⟩) (n + m) cap) (n + m) (xs ++ news) → ((v.ownBlock = some g ∧ w.grownBy w' (some g)) ∨ (g = w.heap.size ∧ w.grownBy w' none)) → wpList P ops Q rest (a.put o.dst (.slice (some ⟨g, 0, none⟩) (n + m) cap)) w') :
    wpList P ops Q (o :: rest) a w := by
  refine wpList_plain hgd fun K hK => ?_
  obtain ⟨g, cap, w', hr, h2, h3⟩ := run_append_kept (P := P) w base t o.type e i z size bytes ht hi hz hsize hby hzs hsz v n xs hown ad m c news hl hnews h1 hm h63 hbytes hbase
  unfold Oper.wp execOp
  simp only [ho, resolve, invoke, builtin, Sem.run_bind, Sem.run_pure, Result.andThen_ok, List.map_toArray, List.map_cons, List.map_nil, hs, hx, hr]
  exact hK _ _ (h g cap w' h2 h3)

theorem Try.info50 : (Try.prog.info? 50).map (fun i => (i.zero, i.size, i.bytes)) = some (some (.agg #[.slice none 0 0, .int .i64 0]), 2, 32) := by kernel_rfl
theorem Try.info52 : (Try.prog.info? 52).map (fun i => (i.zero, i.size, i.bytes)) = some (some (.agg #[.slice none 0 0, .int .i64 0]), 2, 32) := by kernel_rfl

theorem book_set0 {w : World} {bb : Nat} {a b c : Value} (h : w.heap[bb]? = some (.cells #[a, b, c] 32 (0, 0))) (v : Value) : (w.setCell ⟨bb, 0, none⟩ v).heap[bb]? = some (.cells #[v, b, c] 32 (0, 0)) := by
  rw [heap_setCell_same w bb 0 _ 32 _ h]; rfl
theorem book_set1 {w : World} {bb : Nat} {a b c : Value} (h : w.heap[bb]? = some (.cells #[a, b, c] 32 (0, 0))) (v : Value) : (w.setCell ⟨bb, 1, none⟩ v).heap[bb]? = some (.cells #[a, v, c] 32 (0, 0)) := by
  rw [heap_setCell_same w bb 1 _ 32 _ h]; rfl
theorem book_set2 {w : World} {bb : Nat} {a b c : Value} (h : w.heap[bb]? = some (.cells #[a, b, c] 32 (0, 0))) (v : Value) : (w.setCell ⟨bb, 2, none⟩ v).heap[bb]? = some (.cells #[a, b, v] 32 (0, 0)) := by
  rw [heap_setCell_same w bb 2 _ 32 _ h]; rfl

theorem not_row_of {w : World} {base e size n t g : Nat} {v : Value} {xs : List Value} {cs : Array Value} (h : w.ownsRow base e size v n xs) (hg : w.heap[g]? = some (.cells cs t (0, 0))) (hne : e ≠ t) : ¬ v.ownBlock = some g := own_ne h hg hne

/-- the rows of the book -/
structure BookR (w : World) (base bb : Nat) (n : Int) (iv pv : Value) (is ps : List Ent) : Prop where
  blk : w.heap[bb]? = some (.cells #[.int .i64 n, iv, pv] 32 (0, 0))
  ints : w.ownsRow base 50 2 iv is.length (entCells is)
  pairs : w.ownsRow base 52 2 pv ps.length (entCells ps)
  low : bb < base
  few : is.length ≤ 100
  fewp : ps.length ≤ 100

theorem Book.rows {w : World} {B base bb : Nat} {n : Int} {iv pv : Value} {is ps : List Ent} (h : Book w B base bb n iv pv is ps) : BookR w base bb n iv pv is ps := ⟨h.blk, h.ints, h.pairs, h.low, h.few, h.fewp⟩

theorem BookR.keep {w w' : World} {base bb : Nat} {n : Int} {iv pv : Value} {is ps : List Ent} {S : Nat → Prop} (h : BookR w base bb n iv pv is ps) (hk : Keeps S w w') (h1 : ¬ S bb) (h2 : ∀ k, iv.ownBlock = some k → ¬ S k) (h3 : ∀ k, pv.ownBlock = some k → ¬ S k) : BookR w' base bb n iv pv is ps :=
  ⟨m_later h.blk hk h1, own_keeps h.ints hk h2, own_keeps h.pairs hk h3, h.low, h.few, h.fewp⟩

/-- no block of the book holds numbers or pairs -/
theorem BookR.off {w : World} {base bb : Nat} {n : Int} {iv pv : Value} {is ps : List Ent} (h : BookR w base bb n iv pv is ps) {t g : Nat} {cs : Array Value} (ht : t ≠ 32 ∧ t ≠ 50 ∧ t ≠ 52) (hg : w.heap[g]? = some (.cells cs t (0, 0))) : g ≠ bb ∧ ¬ iv.ownBlock = some g ∧ ¬ pv.ownBlock = some g := by
  refine ⟨?_, own_ne h.ints hg (Ne.symm ht.2.1), own_ne h.pairs hg (Ne.symm ht.2.2)⟩
  intro e
  subst e
  rw [h.blk] at hg
  simp only [Option.some.injEq, Obj.cells.injEq] at hg
  exact ht.1 hg.2.1.symm

theorem BookR.setN {w : World} {base bb : Nat} {n : Int} {iv pv : Value} {is ps : List Ent} (h : BookR w base bb n iv pv is ps) (m : Int) : BookR (w.setCell ⟨bb, 0, none⟩ (.int .i64 m)) base bb m iv pv is ps :=
  ⟨book_set0 h.blk _, own_set h.ints (own_ge2 h.ints h.low) _, own_set h.pairs (own_ge2 h.pairs h.low) _, h.low, h.few, h.fewp⟩

theorem BookR.addN {w w' : World} {base bb : Nat} {n : Int} {iv iv' pv : Value} {is ps : List Ent} {E : Ent} (h : BookR w base bb n iv pv is ps) (hf : is.length < 100) (hg : w.grownBy w' iv.ownBlock) (ho : w'.ownsRow base 50 2 iv' (is.length + 1) (entCells is ++ [.slice E.ao E.len E.cap, .int .i64 E.n])) :
    BookR (w'.setCell ⟨bb, 1, none⟩ iv') base bb n iv' pv (is ++ [E]) ps ∧ Keeps (fun k => k = bb ∨ iv.ownBlock = some k) w (w'.setCell ⟨bb, 1, none⟩ iv') := by
  have hk : Keeps (fun j => iv.ownBlock = some j) w w' := (Keeps.refl _ w).grown hg (fun k e => .inr e)
  have hb := m_later h.blk hk (own_ge2 h.ints h.low)
  have hk2 : Keeps (fun k => k = bb ∨ iv.ownBlock = some k) w (w'.setCell ⟨bb, 1, none⟩ iv') := Keeps.setCell (p := ⟨bb, 1, none⟩) (hk.mono (fun _ _ x => .inr x)) (.inr (.inl rfl)) _
  refine ⟨⟨book_set1 hb _, ?_, ?_, h.low, by simp; omega, h.fewp⟩, hk2⟩
  · have := own_set (p := ⟨bb, 1, none⟩) ho (own_ge2 ho h.low) iv'
    rw [entCells_snoc]
    simpa using this
  · have hp := own_keeps h.pairs hk (fun k e e2 => rows_ne h.pairs h.ints (by decide) (by rw [e]; simp) (e.trans e2.symm))
    exact own_set hp (own_ge2 hp h.low) _

theorem BookR.addP {w w' : World} {base bb : Nat} {n : Int} {iv pv pv' : Value} {is ps : List Ent} {E : Ent} (h : BookR w base bb n iv pv is ps) (hf : ps.length < 100) (hg : w.grownBy w' pv.ownBlock) (ho : w'.ownsRow base 52 2 pv' (ps.length + 1) (entCells ps ++ [.slice E.ao E.len E.cap, .int .i64 E.n])) :
    BookR (w'.setCell ⟨bb, 2, none⟩ pv') base bb n iv pv' is (ps ++ [E]) ∧ Keeps (fun k => k = bb ∨ pv.ownBlock = some k) w (w'.setCell ⟨bb, 2, none⟩ pv') := by
  have hk : Keeps (fun j => pv.ownBlock = some j) w w' := (Keeps.refl _ w).grown hg (fun k e => .inr e)
  have hb := m_later h.blk hk (own_ge2 h.pairs h.low)
  have hk2 : Keeps (fun k => k = bb ∨ pv.ownBlock = some k) w (w'.setCell ⟨bb, 2, none⟩ pv') := Keeps.setCell (p := ⟨bb, 2, none⟩) (hk.mono (fun _ _ x => .inr x)) (.inr (.inl rfl)) _
  refine ⟨⟨book_set2 hb _, ?_, ?_, h.low, h.few, by simp; omega⟩, hk2⟩
  · have hp := own_keeps h.ints hk (fun k e e2 => rows_ne h.ints h.pairs (by decide) (by rw [e]; simp) (e.trans e2.symm))
    exact own_set hp (own_ge2 hp h.low) _
  · have := own_set (p := ⟨bb, 2, none⟩) ho (own_ge2 ho h.low) pv'
    rw [entCells_snoc]
    simpa using this

end Go.Proofs.Ytedbdejhpjkofaa
