import Derived.Test.YtedbdejhpjkofaaB3
namespace Go.Proofs.Ytedbdejhpjkofaa
open Go.RowKit Go.Maps
set_option linter.unusedVariables false
set_option linter.unusedSimpArgs false

/-- between the steps of takePairs: the book's rows, the list as it has grown, and the lists that were entered -/
structure TookP (w : World) (B C base bb bx : Nat) (m x : Int) (pv0 lv iv : Value) (is ps : List Ent) (len c : Nat) (pv : Value) (go : Option Addr) (gc : Nat) (new : List Ent) (wr : World) : Prop where
  rows : BookR wr base bb m iv pv is (ps ++ new)
  fi : ∀ e, e ∈ is → FullN wr C e
  fp : ∀ e, e ∈ ps → FullP wr B e
  row : wr.ownsRow B 44 2 (.slice go len gc) len (pairCells (List.replicate len (x, x)))
  fn : ∀ e, e ∈ new → FullP wr wr.heap.size e ∧ e.len ≤ len ∧ e.n = x
  num : new.length = c
  keep : Keeps (fun k => k = bb ∨ pv0.ownBlock = some k ∨ lv.ownBlock = some k) w wr
  pvb : ∀ j, pv.ownBlock = some j → pv0.ownBlock = some j ∨ w.heap.size ≤ j
  gb : ∀ j, (Value.slice go len gc).ownBlock = some j → lv.ownBlock = some j ∨ w.heap.size ≤ j
  gx : ¬ (Value.slice go len gc).ownBlock = some bx
  xb : wr.heap[bx]? = some (.cells #[.int .i64 x, .int .i64 x] 44 (0, 0))
  xn : w.heap.size ≤ bx
  small : len ≤ 8796093022300
  hbB : bb < B

theorem rep_cells (x : Int) (len i : Nat) (h : i < len) : (pairCells (List.replicate len (x, x)))[i * 2]? = some (.int .i64 x) ∧ (pairCells (List.replicate len (x, x)))[i * 2 + 1]? = some (.int .i64 x) := by
  have := pairCells_get (List.replicate len (x, x)) i (by simpa using h)
  simpa using this

theorem FullP_row {W : World} {B g cap len l : Nat} {x : Int} (hrow : W.ownsRow B 44 2 (.slice (some ⟨g, 0, none⟩) len cap) len (pairCells (List.replicate len (x, x)))) (i : Nat) (hi : i < len) : W.cell? ⟨g, i * 2, none⟩ = some (.int .i64 x) ∧ W.cell? ⟨g, i * 2 + 1, none⟩ = some (.int .i64 x) := by
  obtain ⟨h1, h2⟩ := rep_cells x len i hi
  exact ⟨(hrow.cellAt (i * 2) (by omega)).trans h1, (hrow.cellAt (i * 2 + 1) (by omega)).trans h2⟩

theorem TookP.below {w : World} {B C base bb bx : Nat} {m x : Int} {pv0 lv iv : Value} {is ps : List Ent} {len c : Nat} {pv : Value} {go : Option Addr} {gc : Nat} {new : List Ent} {wr V : World} (h : TookP w B C base bb bx m x pv0 lv iv is ps len c pv go gc new wr) (hb : Below wr.heap.size wr V) : TookP w B C base bb bx m x pv0 lv iv is ps len c pv go gc new V := by
  have hk : Keeps (fun _ => False) wr V := Below.keeps hb
  exact ⟨h.rows.keep hk (fun x => x) (fun _ _ x => x) (fun _ _ x => x), fun e he => (h.fi e he).keep hk (fun _ _ _ _ x => x) (Nat.le_refl _), fun e he => (h.fp e he).keep hk (fun _ _ _ _ x => x) (Nat.le_refl _), own_below h.row hb, fun e he => ⟨(h.fn e he).1.keep hk (fun _ _ _ _ x => x) hb.size, (h.fn e he).2⟩, h.num, h.keep.trans (hk.mono (fun _ _ x => x.elim)), h.pvb, h.gb, h.gx, m_later h.xb hk (fun x => x), h.xn, h.small, h.hbB⟩

/-- the list is entered -/
theorem TookP.enter {w : World} {B C base bb bx : Nat} {m x : Int} {pv0 lv iv : Value} {is ps : List Ent} {len c : Nat} {pv : Value} {go : Option Addr} {gc : Nat} {new : List Ent} {wr V W : World} {g' cap' : Nat} (h : TookP w B C base bb bx m x pv0 lv iv is ps len c pv go gc new wr) (hb : Below wr.heap.size wr V) (hf : (ps ++ new).length < 100) (hg : V.grownBy W pv.ownBlock)
    (ho : W.ownsRow base 52 2 (.slice (some ⟨g', 0, none⟩) ((ps ++ new).length + 1) cap') ((ps ++ new).length + 1) (entCells (ps ++ new) ++ [.slice go len gc, .int .i64 x])) (hat : pv.ownBlock = some g' ∨ V.heap.size ≤ g') :
    TookP w B C base bb bx m x pv0 lv iv is ps len (c + 1) (.slice (some ⟨g', 0, none⟩) ((ps ++ new).length + 1) cap') go gc (new ++ [⟨go, len, gc, x⟩]) (W.setCell ⟨bb, 2, none⟩ (.slice (some ⟨g', 0, none⟩) ((ps ++ new).length + 1) cap')) := by
  have hv := h.below hb
  obtain ⟨h1, h2⟩ := hv.rows.addP (E := ⟨go, len, gc, x⟩) hf hg ho
  have hoff : ∀ t, (t ≠ 32 ∧ t ≠ 50 ∧ t ≠ 52) → ∀ g cs, V.heap[g]? = some (.cells cs t (0, 0)) → ¬ (g = bb ∨ pv.ownBlock = some g) := fun t ht g cs hg' e => e.elim (hv.rows.off ht hg').1 (hv.rows.off ht hg').2.2
  have hsz := h2.size
  have hwv := hv.keep.size
  have hrow := own_keeps hv.row h2 (fun k e1 e2 => e2.elim (fun e => own_ge2 hv.row hv.hbB (e ▸ e1)) (fun e => rows_ne hv.row hv.rows.pairs (by decide) (by rw [e1]; simp) (e1.trans e.symm)))
  have hE : FullP (W.setCell ⟨bb, 2, none⟩ (.slice (some ⟨g', 0, none⟩) ((ps ++ new).length + 1) cap')) (W.setCell ⟨bb, 2, none⟩ (.slice (some ⟨g', 0, none⟩) ((ps ++ new).length + 1) cap')).heap.size ⟨go, len, gc, x⟩ := by
    refine ⟨h.small, fun i hi => ?_⟩
    have hi2 : i < len := hi
    rcases hrow.2 with ⟨e, hz⟩ | ⟨g0, cap0, cur, e, _, hg0, _⟩
    · omega
    · simp only [Value.slice.injEq] at e
      obtain ⟨rfl, _, rfl⟩ := e
      exact ⟨g0, rfl, (Array.getElem?_eq_some_iff.1 hg0).1, ⟨cur, hg0⟩, FullP_row (l := 0) hrow i hi2⟩
  refine ⟨?_, fun e he => (hv.fi e he).keep h2 (fun g cs _ hg' => hoff 3 (by decide) g cs hg') (Nat.le_refl _), fun e he => (hv.fp e he).keep h2 (fun g cs _ hg' => hoff 44 (by decide) g cs hg') (Nat.le_refl _), hrow, ?_, by simp [h.num], ?_, ?_, h.gb, h.gx, m_later hv.xb h2 (hoff 44 (by decide) bx _ hv.xb), h.xn, h.small, h.hbB⟩
  · rw [← List.append_assoc]; exact h1
  · intro e he
    rcases List.mem_append.1 he with he | he
    · exact ⟨(hv.fn e he).1.keep h2 (fun g cs _ hg' => hoff 44 (by decide) g cs hg') hsz, (hv.fn e he).2⟩
    · simp only [List.mem_singleton] at he
      subst he
      exact ⟨hE, Nat.le_refl _, rfl⟩
  · exact keeps_step hv.keep h2 (fun j hj e => e.elim .inl (fun e => (hv.pvb j e).elim (fun e => .inr (.inl e)) (fun e => by omega)))
  · intro j hj
    have e : g' = j := by simpa [Value.ownBlock] using hj
    subst e
    rcases hat with e | e
    · exact h.pvb _ e
    · exact .inr (by omega)

theorem rep_succ (x : Int) (len : Nat) : pairCells (List.replicate (len + 1) (x, x)) = pairCells (List.replicate len (x, x)) ++ [.int .i64 x, .int .i64 x] := by
  rw [List.replicate_succ', pairCells_snoc]

/-- the list has grown by one -/
theorem TookP.grow {w : World} {B C base bb bx : Nat} {m x : Int} {pv0 lv iv : Value} {is ps : List Ent} {len c : Nat} {pv : Value} {go : Option Addr} {gc : Nat} {new : List Ent} {wr V W : World} {g' cap' : Nat} (h : TookP w B C base bb bx m x pv0 lv iv is ps len c pv go gc new wr) (hb : Below wr.heap.size wr V)
    (ho : W.ownsRow B 44 2 (.slice (some ⟨g', 0, none⟩) (len + 1) cap') (len + 1) (pairCells (List.replicate len (x, x)) ++ [.int .i64 x, .int .i64 x])) (hg : ((Value.slice go len gc).ownBlock = some g' ∧ V.grownBy W (some g')) ∨ (g' = V.heap.size ∧ V.grownBy W none)) (hl : len + 1 ≤ 8796093022300) :
    TookP w B C base bb bx m x pv0 lv iv is ps (len + 1) c pv (some ⟨g', 0, none⟩) cap' new W := by
  have hv := h.below hb
  have hwv := hv.keep.size
  have hrow : W.ownsRow B 44 2 (.slice (some ⟨g', 0, none⟩) (len + 1) cap') (len + 1) (pairCells (List.replicate (len + 1) (x, x))) := by rw [rep_succ]; exact ho
  have hxl : bx < V.heap.size := (Array.getElem?_eq_some_iff.1 hv.xb).1
  rcases hg with ⟨e1, hg⟩ | ⟨e1, hg⟩
  · have hk : Keeps (fun k => k = g') V W := (Keeps.refl _ V).grown hg (fun k e => .inr (by cases e; rfl))
    have hB := (hv.row.lt g' e1).1
    have hgl : g' < V.heap.size := (hv.row.lt g' e1).2
    have hne : bx ≠ g' := fun e => h.gx (e ▸ e1)
    have hrn1 : ∀ k, iv.ownBlock = some k → ¬ k = g' := fun k e2 e3 => rows_ne hv.rows.ints hv.row (by decide) (by rw [e2]; simp) (by rw [e2, e1, e3])
    have hrn2 : ∀ k, pv.ownBlock = some k → ¬ k = g' := fun k e2 e3 => rows_ne hv.rows.pairs hv.row (by decide) (by rw [e2]; simp) (by rw [e2, e1, e3])
    have hty : ∃ cur, V.heap[g']? = some (.cells cur 44 (0, 0)) := by
      rcases hv.row.2 with ⟨e, _⟩ | ⟨g0, cap0, cur, e, _, hg0, _⟩
      · rw [e] at e1; simp [Value.ownBlock] at e1
      · rw [e] at e1
        have : g0 = g' := by simpa [Value.ownBlock] using e1
        subst this
        exact ⟨cur, hg0⟩
    have h3 : ∀ g cs, V.heap[g]? = some (.cells cs 3 (0, 0)) → ¬ g = g' := by
      intro g cs hg3 e
      subst e
      obtain ⟨cur, hc⟩ := hty
      rw [hc] at hg3
      simp at hg3
    refine ⟨hv.rows.keep hk (by have := hv.hbB; omega) hrn1 hrn2, fun e he => (hv.fi e he).keep hk (fun g cs _ hg' => h3 g cs hg') (Nat.le_refl _), fun e he => (hv.fp e he).keep hk (fun g cs hg' _ => by omega) (Nat.le_refl _), hrow, ?_, h.num, ?_, h.pvb, ?_, ?_, m_later hv.xb hk hne, h.xn, hl, h.hbB⟩
    · intro e he
      obtain ⟨f1, f2, f3⟩ := hv.fn e he
      refine ⟨⟨f1.1, fun i hi => ?_⟩, by omega, f3⟩
      obtain ⟨g0, a1, a2, ⟨cs, a3⟩, a4, a5⟩ := f1.2 i hi
      by_cases hgg : g0 = g'
      · subst hgg
        rcases hrow.2 with ⟨e, hz⟩ | ⟨g1, cap1, cur, e, _, hg1, _⟩
        · omega
        · simp only [Value.slice.injEq, Option.some.injEq, Addr.mk.injEq, and_true, true_and] at e
          obtain ⟨rfl, rfl⟩ := e
          rw [f3]
          exact ⟨g0, a1, (Array.getElem?_eq_some_iff.1 hg1).1, ⟨cur, hg1⟩, FullP_row (l := 0) hrow i (by omega)⟩
      · have hbk := hk.block g0 a2 hgg
        exact ⟨g0, a1, Nat.lt_of_lt_of_le a2 hk.size, ⟨cs, hbk.trans a3⟩, (World.cell?_of_block (a := ⟨g0, i * 2, none⟩) hbk).trans a4, (World.cell?_of_block (a := ⟨g0, i * 2 + 1, none⟩) hbk).trans a5⟩
    · exact keeps_step hv.keep hk (fun j hj e => by
        subst e
        rcases hv.gb _ e1 with e | e
        · exact .inr (.inr e)
        · omega)
    · intro j hj
      have e : g' = j := by simpa [Value.ownBlock] using hj
      subst e
      exact hv.gb _ e1
    · intro hj
      have e : g' = bx := by simpa [Value.ownBlock] using hj
      exact hne e.symm
  · have hk : Keeps (fun _ => False) V W := (Keeps.refl _ V).grown hg (fun k e => by cases e)
    refine ⟨hv.rows.keep hk (fun x => x) (fun _ _ x => x) (fun _ _ x => x), fun e he => (hv.fi e he).keep hk (fun _ _ _ _ x => x) (Nat.le_refl _), fun e he => (hv.fp e he).keep hk (fun _ _ _ _ x => x) (Nat.le_refl _), hrow, fun e he => ⟨(hv.fn e he).1.keep hk (fun _ _ _ _ x => x) hk.size, by have := (hv.fn e he).2.1; omega, (hv.fn e he).2.2⟩, h.num, hv.keep.trans (hk.mono (fun _ _ x => x.elim)), h.pvb, ?_, ?_, m_later hv.xb hk (fun x => x), h.xn, hl, h.hbB⟩
    · intro j hj
      have e : g' = j := by simpa [Value.ownBlock] using hj
      subst e
      exact .inr (by omega)
    · intro hj
      have e : g' = bx := by simpa [Value.ownBlock] using hj
      omega

theorem pairCells_set (M : List (Int × Int)) (k : Nat) (a b : Int) : ((pairCells M).set (k * 2) (.int .i64 a)).set (k * 2 + 1) (.int .i64 b) = pairCells (M.set k (a, b)) := by
  induction M generalizing k with
  | nil => simp [pairCells]
  | cons p r ih =>
    have e : pairCells (p :: r) = .int .i64 p.1 :: .int .i64 p.2 :: pairCells r := rfl
    cases k with
    | zero => rfl
    | succ k =>
      have e1 : (k + 1) * 2 = k * 2 + 1 + 1 := by omega
      rw [e, e1]
      simp only [List.set_cons_succ]
      rw [ih k]
      rfl

set_option maxRecDepth 100000 in
set_option maxHeartbeats 4000000 in
theorem takePairs_any (w : World) (B C base bb n : Nat) (iv pv : Value) (is ps : List Ent) (lo mo : Option Addr) (lc mc : Nat) (L : List (Int × Int)) (hbr : BookR w base bb n iv pv is ps) (hfi : ∀ e, e ∈ is → FullN w C e) (hfp : ∀ e, e ∈ ps → FullP w B e) (hl : w.ownsRow B 44 2 (.slice lo L.length lc) L.length (pairCells L)) (hm : HoldsL w mo L) (hL : L.length ≤ 8796093022208) (hn : n ≤ 1000) (hfew : ps.length ≤ 90) (hbB : bb < B) (hB : B ≤ w.heap.size) (hbase : base ≤ w.heap.size) :
    Calls Try.prog 21 #[.pointer (some ⟨bb, 0, none⟩), .slice lo L.length lc, .slice mo L.length mc] w fun e w' => e = .returned (.bool true) ∧ ∃ pv' ps', BookR w' base bb (n + 1 : Nat) iv pv' is ps' ∧ (∀ e, e ∈ is → FullN w' C e) ∧ (∀ e, e ∈ ps' → FullP w' w'.heap.size e) ∧ ps'.length = ps.length + 4 ∧ Keeps (fun k => k = bb ∨ pv.ownBlock = some k ∨ (Value.slice lo L.length lc).ownBlock = some k) w w' := by
  have hsame := lawSameP_yes lo mo lc mc L w (by omega) (holdsL_own hl) hm
  obtain ⟨b0, b1, b2, bz⟩ := book_cells hbr.blk
  have hlt : bb < w.heap.size := (Array.getElem?_eq_some_iff.1 hbr.blk).1
  have bz0 := bz 0
  go_enter Try.func21, Try.ntmps21
  go_wp2_with fail
  refine hsame.mono ?_
  rintro e w1 ⟨rfl, q, rfl⟩
  go_wp2
  obtain ⟨w2, hw2⟩ : ∃ w2, w2 = (w.drewN q).setCell ⟨bb, 0, none⟩ (.int .i64 ((n : Int) + 1)) := ⟨_, rfl⟩
  have hk2 : Keeps (· = bb) w w2 := by rw [hw2]; exact Keeps.setCell (S := (· = bb)) (p := ⟨bb, 0, none⟩) ((Keeps.refl _ w).drewN q) (.inr rfl) _
  have hr2 : BookR w2 base bb ((n : Int) + 1) iv pv is ps := by rw [hw2]; exact (hbr.keep ((Keeps.refl (fun _ => False) w).drewN q) (fun x => x) (fun _ _ x => x) (fun _ _ x => x)).setN _
  have hl2 : w2.ownsRow B 44 2 (.slice lo L.length lc) L.length (pairCells L) := by rw [hw2]; exact own_set (p := ⟨bb, 0, none⟩) (own_drewN hl q) (own_ge2 hl hbB) _
  have hfi2 : ∀ e, e ∈ is → FullN w2 C e := fun e he => (hfi e he).keep hk2 (fun g cs _ hg => (hbr.off (by decide) hg).1) (Nat.le_refl _)
  have hfp2 : ∀ e, e ∈ ps → FullP w2 B e := fun e he => (hfp e he).keep hk2 (fun g cs _ hg => (hbr.off (by decide) hg).1) (Nat.le_refl _)
  rw [← hw2]
  obtain ⟨b0, b1, b2, bz⟩ := book_cells hr2.blk
  have hlt2 : bb < w2.heap.size := (Array.getElem?_eq_some_iff.1 hr2.blk).1
  have hsz2 := hk2.size
  clear hsame hm hw2 bz0
  have hneg := neg_wrap n hn
  go_region
  clear hneg
  go_wp2
  obtain ⟨w3, hw3⟩ : ∃ w3, w3 = (w2.alloc (Obj.cells #[.int .i64 (-((n : Int) + 1)), .int .i64 (-((n : Int) + 1))] 44)).drew := ⟨_, rfl⟩
  have hb3 : Below w2.heap.size w2 w3 := by rw [hw3]; exact ((Below.refl _ w2).alloc (Nat.le_refl _) _).drew
  have hx3 : w3.heap[w2.heap.size]? = some (.cells #[.int .i64 (-((n : Int) + 1)), .int .i64 (-((n : Int) + 1))] 44 (0, 0)) := by rw [hw3]; exact heap_alloc_new w2 _
  rw [← hw3]
  have hk23 : Keeps (fun _ => False) w2 w3 := Below.keeps hb3
  have hr3 : BookR w3 base bb ((n : Int) + 1) iv pv is ps := hr2.keep hk23 (fun x => x) (fun _ _ x => x) (fun _ _ x => x)
  have hl3 : w3.ownsRow B 44 2 (.slice lo L.length lc) L.length (pairCells L) := own_below hl2 hb3
  have hfi3 : ∀ e, e ∈ is → FullN w3 C e := fun e he => (hfi2 e he).keep hk23 (fun _ _ _ _ x => x) (Nat.le_refl _)
  have hfp3 : ∀ e, e ∈ ps → FullP w3 B e := fun e he => (hfp2 e he).keep hk23 (fun _ _ _ _ x => x) (Nat.le_refl _)
  have hk3 : Keeps (· = bb) w w3 := hk2.trans (hk23.mono (fun _ _ x => x.elim))
  have hlox : ¬ (Value.slice lo L.length lc).ownBlock = some w2.heap.size := fun e => by have := (hl2.lt _ e).2; omega
  have hsz3 := hk3.size
  clear hw3 hb3 hk23 hr2 hl2 hfi2 hfp2 hk2 b0 b1 b2 bz
  go_loopw [9] (fun j wr => ∃ k : Nat, k ≤ L.length ∧ j = .int .i64 k ∧ wr.ownsRow B 44 2 (.slice lo L.length lc) L.length (pairCells (List.replicate k ((-((n : Int) + 1)), (-((n : Int) + 1))) ++ L.drop k)) ∧ Keeps (fun j => (Value.slice lo L.length lc).ownBlock = some j) w3 wr) (fun j _ => L.length - (intOf j).toNat)
  case atStart => exact ⟨0, Nat.zero_le _, rfl, hl3, Keeps.refl _ _⟩
  case round =>
    obtain ⟨k, hk, rfl, hrow, hkp⟩ := hrel
    have hr4 : BookR wr base bb ((n : Int) + 1) iv pv is ps := hr3.keep hkp (own_ge2 hl3 hbB) (fun k e1 e2 => rows_ne hr3.ints hl3 (by decide) (by rw [e1]; simp) (e1.trans e2.symm)) (fun k e1 e2 => rows_ne hr3.pairs hl3 (by decide) (by rw [e1]; simp) (e1.trans e2.symm))
    have hx4 := m_later hx3 hkp hlox
    have x0 : wr.cell? ⟨w2.heap.size, 0, none⟩ = some (.int .i64 (-((n : Int) + 1))) := by rw [cell_of_row _ _ 0 _ 44 (0, 0) hx4]; rfl
    have x1 : wr.cell? ⟨w2.heap.size, 1, none⟩ = some (.int .i64 (-((n : Int) + 1))) := by rw [cell_of_row _ _ 1 _ 44 (0, 0) hx4]; rfl
    have hxl : w2.heap.size < wr.heap.size := (Array.getElem?_eq_some_iff.1 hx4).1
    obtain ⟨b0, b1, b2, bz⟩ := book_cells hr4.blk
    have hltr : bb < wr.heap.size := (Array.getElem?_eq_some_iff.1 hr4.blk).1
    by_cases hltk : k < L.length
    · obtain ⟨g, cap0, e0, _, _⟩ := hrow.form (by omega)
      simp only [Value.slice.injEq] at e0
      obtain ⟨rfl, _, rfl⟩ := e0
      obtain ⟨pc0, pc1⟩ := pairCells_get (List.replicate k ((-((n : Int) + 1)), (-((n : Int) + 1))) ++ L.drop k) k (by simp; omega)
      have c0 := (hrow.cellAt (k * 2) (by omega)).trans pc0
      have c1 := (hrow.cellAt (k * 2 + 1) (by omega)).trans pc1
      have f0 := hrow.frozenAt (k * 2)
      have f1 := hrow.frozenAt (k * 2 + 1)
      have hst := (hrow.stored (k * 2) (.int .i64 (-((n : Int) + 1)))).1.stored (k * 2 + 1) (.int .i64 (-((n : Int) + 1)))
      rw [pairCells_set, rep_set _ _ _ hltk] at hst
      have hk0 : (0 : Int) ≤ (k : Int) := by omega
      have hk1 : (k : Int) < (L.length : Int) := by omega
      have HROW : Hid _ := hst.1
      have HKP : Hid (Keeps (fun j => (Value.slice (some ⟨g, 0, none⟩) L.length lc).ownBlock = some j) w3 ((wr.setCell ⟨g, k * 2, none⟩ (.int .i64 (-((n : Int) + 1)))).setCell ⟨g, k * 2 + 1, none⟩ (.int .i64 (-((n : Int) + 1))))) := (hkp.setCell (p := ⟨g, k * 2, none⟩) (.inr rfl) _).setCell (p := ⟨g, k * 2 + 1, none⟩) (.inr rfl) _
      have hgx : g ≠ w2.heap.size := fun e => hlox (by rw [e]; rfl)
      clear hrow hst hkp pc0 pc1
      generalize ((List.replicate k ((-((n : Int) + 1)), (-((n : Int) + 1))) ++ L.drop k)[k]'(by simp; omega)).1 = tk0 at *
      generalize ((List.replicate k ((-((n : Int) + 1)), (-((n : Int) + 1))) ++ L.drop k)[k]'(by simp; omega)).2 = tk1 at *
      go_wp2
      go_roundw
      case rel => exact ⟨k + 1, by omega, by go_num, HROW.out, HKP.out⟩
      case measure => simp [intOf]; omega
    · have ek : k = L.length := by omega
      subst ek
      have hrow2 : wr.ownsRow B 44 2 (.slice lo L.length lc) L.length (pairCells (List.replicate L.length ((-((n : Int) + 1)), (-((n : Int) + 1))))) := by
        have e : L.drop L.length = [] := by simp
        rw [e, List.append_nil] at hrow
        exact hrow
      have hfi4 : ∀ e, e ∈ is → FullN wr C e := fun e he => (hfi3 e he).keep hkp (fun g cs _ hg e => own_ne hl3 hg (by decide) e) (Nat.le_refl _)
      have hfp4 : ∀ e, e ∈ ps → FullP wr B e := fun e he => (hfp3 e he).keep hkp (fun g cs hg _ e => by have := (hl3.lt g e).1; omega) (Nat.le_refl _)
      have hk4 : Keeps (fun k => k = bb ∨ pv.ownBlock = some k ∨ (Value.slice lo L.length lc).ownBlock = some k) w wr := (hk3.mono (fun _ _ x => .inl x)).trans (hkp.mono (fun _ _ x => .inr (.inr x)))
      have HR3 : Hid (BookR wr base bb ((n : Int) + 1) iv pv is ps) := hr4
      have hsz4 := hk4.size
      obtain ⟨po, pc, rfl⟩ := own_form hr4.pairs
      have bz2 := bz 2
      obtain ⟨i0, hi0, hz0, hz1, hz2⟩ := info_parts Try.info52
      have HA : Hid (TookP w B C base bb w2.heap.size ((n : Int) + 1) (-((n : Int) + 1)) (.slice po ps.length pc) (.slice lo L.length lc) iv is ps L.length 0 (.slice po ps.length pc) lo lc [] wr) :=
        ⟨by rw [List.append_nil]; exact hr4, hfi4, hfp4, hrow2, (fun e he => by cases he), rfl, hk4, fun j h => .inl h, fun j h => .inl h, hlox, hx4, hsz2, by omega, hbB⟩
      clear hrow hkp hrow2 hfi4 hfp4 hk4 hr4 hfi3 hfp3 hl3 hr3 hk3 bz hx4 hx3
      go_wp2
      have HOWN : Hid (∀ W : World, Below wr.heap.size wr W → W.ownsRow base 52 2 (Value.slice po ps.length pc) ps.length (entCells ps)) := fun W h => own_below HR3.out.pairs h
      have HS3 : Hid (∀ W : World, W.heap[bb]? = wr.heap[bb]? → W.cell? ⟨bb, 2, none⟩ = some (Value.slice po ps.length pc) ∧ W.frozen? ⟨bb, 2, none⟩ = false ∧ W.cell? ⟨bb, 0, none⟩ = some (.int .i64 ((n : Int) + 1))) := by
        intro W e1
        exact ⟨(World.cell?_of_block (a := ⟨bb, 2, none⟩) e1).trans b2, (World.frozen?_of_block (a := ⟨bb, 2, none⟩) e1).trans bz2, (World.cell?_of_block (a := ⟨bb, 0, none⟩) e1).trans b0⟩
      have KEEP : Hid (∀ W : World, Below wr.heap.size wr W → W.cell? ⟨bb, 2, none⟩ = some (Value.slice po ps.length pc) ∧ W.frozen? ⟨bb, 2, none⟩ = false ∧ W.cell? ⟨bb, 0, none⟩ = some (.int .i64 ((n : Int) + 1))) := fun W h => HS3.out W (h.block _ hltr)
      have KEEPG : Hid (∀ V W : World, Below wr.heap.size wr V → V.grownBy W ((Value.slice po ps.length pc)).ownBlock → W.cell? ⟨bb, 2, none⟩ = some (Value.slice po ps.length pc) ∧ W.frozen? ⟨bb, 2, none⟩ = false ∧ W.cell? ⟨bb, 0, none⟩ = some (.int .i64 ((n : Int) + 1))) := by
        intro V W h hg
        have hk : Keeps (fun j => ((Value.slice po ps.length pc)).ownBlock = some j) V W := (Keeps.refl _ V).grown hg (fun k e => .inr e)
        have hs := h.size
        exact HS3.out W ((hk.block _ (by omega) (own_ge2 HR3.out.pairs HR3.out.low)).trans (h.block _ hltr))
      have h63 : ps.length + 1 ≤ maxLen := by unfold maxLen; omega
      have hby : (ps.length + 1) * 32 ≤ 140737488355328 := by omega
      have HFIN : Hid (∀ (V W : World) (g' cap' : Nat), Below wr.heap.size wr V → V.heap.size = wr.heap.size + 1 → V.grownBy W (Value.slice po ps.length pc).ownBlock → W.ownsRow base 52 2 (.slice (some ⟨g', 0, none⟩) (ps.length + 1) cap') (ps.length + 1) (entCells ps ++ [.slice lo L.length lc, .int .i64 (-((n : Int) + 1))]) → ((Value.slice po ps.length pc).ownBlock = some g' ∨ g' = wr.heap.size + 1) →
          TookP w B C base bb w2.heap.size ((n : Int) + 1) (-((n : Int) + 1)) (.slice po ps.length pc) (.slice lo L.length lc) iv is ps L.length 1 (.slice (some ⟨g', 0, none⟩) (ps.length + 1) cap') lo lc [⟨lo, L.length, lc, (-((n : Int) + 1))⟩] (W.setCell ⟨bb, 2, none⟩ (.slice (some ⟨g', 0, none⟩) (ps.length + 1) cap'))) := by
        intro V W g' cap' hb hv hg ho hat
        have := HA.out.enter (g' := g') (cap' := cap') hb (by simp; omega) hg (by rw [List.append_nil]; exact ho) (hat.imp id (fun e => by omega))
        rw [List.append_nil] at this
        exact this
      have hneg := neg_wrap n hn
      obtain ⟨v1, v2, v3⟩ := KEEP.out (wr.alloc (Obj.cells #[.slice lo L.length lc, .int .i64 (-((n : Int) + 1))] 52)).drew (by repeat (first | exact Below.refl _ _ | refine Below.alloc ?_ (by simp) _ | refine Below.drew ?_ | refine Below.drewN' ?_ _))
      go_region_law ((refine step_append_lies _ (by rfl) _ _ 30 (by rfl) base 52 i0 _ 2 32 Try.underlying30 hi0 hz0 hz1 hz2 (by rfl) (by decide) (Value.slice po ps.length pc) ps.length (entCells ps) (by rfl) (HOWN.out _ (by repeat (first | exact Below.refl _ _ | refine Below.alloc ?_ (by simp) _ | refine Below.drew ?_ | refine Below.drewN' ?_ _))) _ 1 1 [.slice lo L.length lc, .int .i64 (-((n : Int) + 1))] (by rfl) (by rfl) (news_new _ _ _) (by intro u hu; simp at hu; rcases hu with rfl | rfl <;> rfl) (by decide) h63 hby (by simp; omega) (wr.heap.size + 1) (by simp) ?_; intro g' cap' w5 hown3 hgrow hat hlt'; obtain ⟨s1, s2, s3⟩ := KEEPG.out _ _ (by repeat (first | exact Below.refl _ _ | refine Below.alloc ?_ (by simp) _ | refine Below.drew ?_ | refine Below.drewN' ?_ _)) hgrow))
      all_goals
        have HT4 : Hid _ := HFIN.out _ _ _ _ (by repeat (first | exact Below.refl _ _ | refine Below.alloc ?_ (by simp) _ | refine Below.drew ?_ | refine Below.drewN' ?_ _)) (by simp) hgrow hown3 hat
        have hsz5 := HT4.out.keep.size
        clear hneg hgrow hown3 hat hlt' s1 s2 s3 v1 v2 v3 HFIN HA KEEPG KEEP HS3 HOWN h63 hby HR3 b0 b1 b2 bz2 x0 x1
        go_wp2
        go_loopw [10, 11] (fun gv j wq => ∃ (k : Nat) (pv' : Value) (go : Option Addr) (gc : Nat) (new : List Ent), k ≤ 3 ∧ j = .int .i64 k ∧ gv = .slice go (L.length + k) gc ∧ TookP w B C base bb w2.heap.size ((n : Int) + 1) (-((n : Int) + 1)) (.slice po ps.length pc) (.slice lo L.length lc) iv is ps (L.length + k) (k + 1) pv' go gc new wq) (fun _ j _ => 3 - (intOf j).toNat)
        case atStart => exact ⟨0, _, _, _, _, by omega, rfl, rfl, HT4.out⟩
        case round =>
          clear HT4
          obtain ⟨k, pv', go, gc, new, hk3, rfl, rfl, ht⟩ := hrel
          have HT : Hid _ := ht
          obtain ⟨b0, b1, b2, bz⟩ := book_cells ht.rows.blk
          have hbr6 : bb < wr.heap.size := (Array.getElem?_eq_some_iff.1 ht.rows.blk).1
          have hszr := ht.keep.size
          have x0 : wr.cell? ⟨w2.heap.size, 0, none⟩ = some (.int .i64 (-((n : Int) + 1))) := by rw [cell_of_row _ _ 0 _ 44 (0, 0) ht.xb]; rfl
          have x1 : wr.cell? ⟨w2.heap.size, 1, none⟩ = some (.int .i64 (-((n : Int) + 1))) := by rw [cell_of_row _ _ 1 _ 44 (0, 0) ht.xb]; rfl
          obtain ⟨j0, hj0, hy0, hy1, hy2⟩ := info_parts Try.info44
          by_cases hk : k < 3
          · have hrow := ht.row
            clear ht bz b1
            go_wp2_with (at_builtin; refine wpList_append_kept _ rfl _ _ 27 rfl B 44 j0 _ 2 16 Try.underlying27 hj0 hy0 hy1 hy2 rfl (by decide) _ _ _ rfl (hrow.alloc _) ⟨wr.heap.size, 0, none⟩ 1 1 [.int .i64 (-((n : Int) + 1)), .int .i64 (-((n : Int) + 1))] rfl rfl ?c1 ?c2 (by decide) ?c3 ?c4 ?c5 ?_)
            case c1 => exact news_new wr [.int .i64 (-((n : Int) + 1)), .int .i64 (-((n : Int) + 1))] 44
            case c2 => intro u hu; simp at hu; subst hu; rfl
            case c3 => unfold maxLen; omega
            case c4 => omega
            case c5 => simp; omega
            intro g5 cap5 w5 hown5 hg5
            have ht5 := HT.out.grow ((Below.refl _ wr).alloc (Nat.le_refl _) (.cells #[.int .i64 (-((n : Int) + 1)), .int .i64 (-((n : Int) + 1))] 44)) hown5 (hg5.imp id (fun h => ⟨by simpa using h.1, h.2⟩)) (by omega)
            have HT5 : Hid _ := ht5
            obtain ⟨b0, b1, b2, bz⟩ := book_cells ht5.rows.blk
            have hb5 : bb < w5.heap.size := (Array.getElem?_eq_some_iff.1 ht5.rows.blk).1
            have hsz5 := ht5.keep.size
            obtain ⟨po5, pc5, rfl⟩ := own_form ht5.rows.pairs
            have bz2 := bz 2
            have hlen5 : (ps ++ new).length = ps.length + (k + 1) := by rw [List.length_append, HT.out.num]
            clear hown5 hg5 ht5 bz hrow HT x0 x1
            generalize hLL : (ps ++ new).length = LL at *
            have HLL : Hid ((ps ++ new).length = LL) := hLL
            have hL1 : LL ≤ ps.length + 4 := by omega
            clear hLL hlen5
            go_wp2
            have HOWN : Hid (∀ W : World, Below w5.heap.size w5 W → W.ownsRow base 52 2 (Value.slice po5 LL pc5) LL (entCells (ps ++ new))) := fun W h => by have := own_below HT5.out.rows.pairs h; rw [HLL.out] at this; exact this
            have HS3 : Hid (∀ W : World, W.heap[bb]? = w5.heap[bb]? → W.cell? ⟨bb, 2, none⟩ = some (Value.slice po5 LL pc5) ∧ W.frozen? ⟨bb, 2, none⟩ = false ∧ W.cell? ⟨bb, 0, none⟩ = some (.int .i64 ((n : Int) + 1))) := by
              intro W e1
              exact ⟨(World.cell?_of_block (a := ⟨bb, 2, none⟩) e1).trans b2, (World.frozen?_of_block (a := ⟨bb, 2, none⟩) e1).trans bz2, (World.cell?_of_block (a := ⟨bb, 0, none⟩) e1).trans b0⟩
            have KEEP : Hid (∀ W : World, Below w5.heap.size w5 W → W.cell? ⟨bb, 2, none⟩ = some (Value.slice po5 LL pc5) ∧ W.frozen? ⟨bb, 2, none⟩ = false ∧ W.cell? ⟨bb, 0, none⟩ = some (.int .i64 ((n : Int) + 1))) := fun W h => HS3.out W (h.block _ hb5)
            have KEEPG : Hid (∀ V W : World, Below w5.heap.size w5 V → V.grownBy W ((Value.slice po5 LL pc5)).ownBlock → W.cell? ⟨bb, 2, none⟩ = some (Value.slice po5 LL pc5) ∧ W.frozen? ⟨bb, 2, none⟩ = false ∧ W.cell? ⟨bb, 0, none⟩ = some (.int .i64 ((n : Int) + 1))) := by
              intro V W h hg
              have hk : Keeps (fun j => ((Value.slice po5 LL pc5)).ownBlock = some j) V W := (Keeps.refl _ V).grown hg (fun k e => .inr e)
              have hs := h.size
              exact HS3.out W ((hk.block _ (by omega) (own_ge2 HT5.out.rows.pairs HT5.out.rows.low)).trans (h.block _ hb5))
            have h63 : LL + 1 ≤ maxLen := by unfold maxLen; omega
            have hby : (LL + 1) * 32 ≤ 140737488355328 := by omega
            have HFIN : Hid (∀ (V W : World) (g' cap' : Nat), Below w5.heap.size w5 V → V.heap.size = w5.heap.size + 1 → V.grownBy W (Value.slice po5 LL pc5).ownBlock → W.ownsRow base 52 2 (.slice (some ⟨g', 0, none⟩) (LL + 1) cap') (LL + 1) (entCells (ps ++ new) ++ [.slice (some ⟨g5, 0, none⟩) (L.length + k + 1) cap5, .int .i64 (-((n : Int) + 1))]) → ((Value.slice po5 LL pc5).ownBlock = some g' ∨ g' = w5.heap.size + 1) →
                TookP w B C base bb w2.heap.size ((n : Int) + 1) (-((n : Int) + 1)) (.slice po ps.length pc) (.slice lo L.length lc) iv is ps (L.length + k + 1) (k + 1 + 1) (.slice (some ⟨g', 0, none⟩) (LL + 1) cap') (some ⟨g5, 0, none⟩) cap5 (new ++ [⟨some ⟨g5, 0, none⟩, L.length + k + 1, cap5, (-((n : Int) + 1))⟩]) (W.setCell ⟨bb, 2, none⟩ (.slice (some ⟨g', 0, none⟩) (LL + 1) cap'))) := by
              intro V W g' cap' hb hv hg ho hat
              have hx := HT5.out.enter (g' := g') (cap' := cap') hb (by rw [HLL.out]; omega) hg (by rw [HLL.out]; exact ho) (hat.imp id (fun e => by omega))
              rw [HLL.out] at hx
              exact hx
            have hneg := neg_wrap n hn
            obtain ⟨v1, v2, v3⟩ := KEEP.out (w5.alloc (Obj.cells #[.slice (some ⟨g5, 0, none⟩) (L.length + k + 1) cap5, .int .i64 (-((n : Int) + 1))] 52)).drew (by repeat (first | exact Below.refl _ _ | refine Below.alloc ?_ (by simp) _ | refine Below.drew ?_ | refine Below.drewN' ?_ _))
            go_region_law ((refine step_append_lies _ (by rfl) _ _ 30 (by rfl) base 52 i0 _ 2 32 Try.underlying30 hi0 hz0 hz1 hz2 (by rfl) (by decide) (Value.slice po5 LL pc5) LL (entCells (ps ++ new)) (by rfl) (HOWN.out _ (by repeat (first | exact Below.refl _ _ | refine Below.alloc ?_ (by simp) _ | refine Below.drew ?_ | refine Below.drewN' ?_ _))) _ 1 1 [.slice (some ⟨g5, 0, none⟩) (L.length + k + 1) cap5, .int .i64 (-((n : Int) + 1))] (by rfl) (by rfl) (news_new _ _ _) (by intro u hu; simp at hu; rcases hu with rfl | rfl <;> rfl) (by decide) h63 hby (by simp; omega) (w5.heap.size + 1) (by simp) ?_; intro g' cap' w6 hown3 hgrow hat hlt'; obtain ⟨s1, s2, s3⟩ := KEEPG.out _ _ (by repeat (first | exact Below.refl _ _ | refine Below.alloc ?_ (by simp) _ | refine Below.drew ?_ | refine Below.drewN' ?_ _)) hgrow))
            all_goals (clear hneg; go_wp2)
            all_goals (first | go_roundw | skip)
            all_goals first
              | (exact ⟨k + 1, _, _, _, _, by omega, by go_num, rfl, HFIN.out _ _ _ _ (by repeat (first | exact Below.refl _ _ | refine Below.alloc ?_ (by simp) _ | refine Below.drew ?_ | refine Below.drewN' ?_ _)) (by simp) hgrow hown3 hat⟩)
              | (simp [intOf]; omega)
          · have ek : k = 3 := by omega
            subst ek
            clear ht
            go_wp2
            go_ret
            have hx := HT.out
            have e1 : ((n + 1 : Nat) : Int) = (n : Int) + 1 := by omega
            refine ⟨rfl, pv', ps ++ new, by rw [e1]; exact hx.rows, hx.fi, ?_, by rw [List.length_append, hx.num], hx.keep⟩
            intro e he
            rcases List.mem_append.1 he with he | he
            · exact (hx.fp e he).lift (Nat.le_refl _)
            · exact (hx.fn e he).1

end Go.Proofs.Ytedbdejhpjkofaa
