import Derived.Test.YtedbdejhpjkofaaB2
namespace Go.Proofs.Ytedbdejhpjkofaa
open Go.RowKit Go.Maps
set_option linter.unusedVariables false
set_option linter.unusedSimpArgs false

theorem neg_wrap (n : Nat) (hn : n ≤ 1000) : IntKind.i64.wrap (-((n : Int) + 1)) = -((n : Int) + 1) := by
  rw [IntKind.wrap_i64]
  omega

theorem rep_set {α : Type} (x : α) (l : List α) (k : Nat) (h : k < l.length) : (List.replicate k x ++ l.drop k).set k x = List.replicate (k + 1) x ++ l.drop (k + 1) := by
  rw [List.set_append_right _ _ (by simp), List.drop_eq_getElem_cons h, List.length_replicate, Nat.sub_self, List.set_cons_zero, List.replicate_succ', List.append_assoc]
  rfl

/-- between the steps of takeInts: the book's rows, the list as it has grown, and the lists that were entered -/
structure TookN (w : World) (B base bb : Nat) (m x : Int) (iv0 lv pv : Value) (is ps : List Ent) (len c : Nat) (iv : Value) (go : Option Addr) (gc : Nat) (new : List Ent) (wr : World) : Prop where
  rows : BookR wr base bb m iv pv (is ++ new) ps
  fi : ∀ e, e ∈ is → FullN wr B e
  fp : ∀ e, e ∈ ps → FullP wr B e
  row : wr.ownsRow B 3 1 (.slice go len gc) len (List.replicate len (.int .i64 x))
  fn : ∀ e, e ∈ new → FullN wr wr.heap.size e ∧ e.len ≤ len ∧ e.n = x
  num : new.length = c
  keep : Keeps (fun k => k = bb ∨ iv0.ownBlock = some k ∨ lv.ownBlock = some k) w wr
  ivb : ∀ j, iv.ownBlock = some j → iv0.ownBlock = some j ∨ w.heap.size ≤ j
  gb : ∀ j, (Value.slice go len gc).ownBlock = some j → lv.ownBlock = some j ∨ w.heap.size ≤ j
  small : len ≤ 1000
  hbB : bb < B

theorem TookN.below {w : World} {B base bb : Nat} {m x : Int} {iv0 lv pv : Value} {is ps : List Ent} {len c : Nat} {iv : Value} {go : Option Addr} {gc : Nat} {new : List Ent} {wr V : World} (h : TookN w B base bb m x iv0 lv pv is ps len c iv go gc new wr) (hb : Below wr.heap.size wr V) : TookN w B base bb m x iv0 lv pv is ps len c iv go gc new V := by
  have hk : Keeps (fun _ => False) wr V := Below.keeps hb
  exact ⟨h.rows.keep hk (fun x => x) (fun _ _ x => x) (fun _ _ x => x), fun e he => (h.fi e he).keep hk (fun _ _ _ _ x => x) (Nat.le_refl _), fun e he => (h.fp e he).keep hk (fun _ _ _ _ x => x) (Nat.le_refl _), own_below h.row hb, fun e he => ⟨(h.fn e he).1.keep hk (fun _ _ _ _ x => x) hb.size, (h.fn e he).2⟩, h.num, h.keep.trans (hk.mono (fun _ _ x => x.elim)), h.ivb, h.gb, h.small, h.hbB⟩

/-- the list is entered -/
theorem TookN.enter {w : World} {B base bb : Nat} {m x : Int} {iv0 lv pv : Value} {is ps : List Ent} {len c : Nat} {iv : Value} {go : Option Addr} {gc : Nat} {new : List Ent} {wr V W : World} {g' cap' : Nat} (h : TookN w B base bb m x iv0 lv pv is ps len c iv go gc new wr) (hb : Below wr.heap.size wr V) (hf : (is ++ new).length < 100) (hg : V.grownBy W iv.ownBlock)
    (ho : W.ownsRow base 50 2 (.slice (some ⟨g', 0, none⟩) ((is ++ new).length + 1) cap') ((is ++ new).length + 1) (entCells (is ++ new) ++ [.slice go len gc, .int .i64 x])) (hat : iv.ownBlock = some g' ∨ V.heap.size ≤ g') :
    TookN w B base bb m x iv0 lv pv is ps len (c + 1) (.slice (some ⟨g', 0, none⟩) ((is ++ new).length + 1) cap') go gc (new ++ [⟨go, len, gc, x⟩]) (W.setCell ⟨bb, 1, none⟩ (.slice (some ⟨g', 0, none⟩) ((is ++ new).length + 1) cap')) := by
  have hv := h.below hb
  obtain ⟨h1, h2⟩ := hv.rows.addN (E := ⟨go, len, gc, x⟩) hf hg ho
  have hoff : ∀ t, (t ≠ 32 ∧ t ≠ 50 ∧ t ≠ 52) → ∀ g cs, V.heap[g]? = some (.cells cs t (0, 0)) → ¬ (g = bb ∨ iv.ownBlock = some g) := fun t ht g cs hg' e => e.elim (hv.rows.off ht hg').1 (hv.rows.off ht hg').2.1
  have hsz := h2.size
  have hwv := hv.keep.size
  have hrow := own_keeps hv.row h2 (fun k e1 e2 => e2.elim (fun e => own_ge2 hv.row hv.hbB (e ▸ e1)) (fun e => rows_ne hv.row hv.rows.ints (by decide) (by rw [e1]; simp) (e1.trans e.symm)))
  have hE : FullN (W.setCell ⟨bb, 1, none⟩ (.slice (some ⟨g', 0, none⟩) ((is ++ new).length + 1) cap')) (W.setCell ⟨bb, 1, none⟩ (.slice (some ⟨g', 0, none⟩) ((is ++ new).length + 1) cap')).heap.size ⟨go, len, gc, x⟩ := by
    refine ⟨by have := h.small; show len ≤ _; omega, fun i hi => ?_⟩
    have hi2 : i < len := hi
    rcases hrow.2 with ⟨e, hz⟩ | ⟨g0, cap0, cur, e, _, hg0, _⟩
    · omega
    · simp only [Value.slice.injEq] at e
      obtain ⟨rfl, _, rfl⟩ := e
      refine ⟨g0, rfl, (Array.getElem?_eq_some_iff.1 hg0).1, ⟨cur, hg0⟩, ?_⟩
      rw [hrow.cellAt i (by omega)]
      simp [hi2]
  refine ⟨?_, fun e he => (hv.fi e he).keep h2 (fun g cs _ hg' => hoff 3 (by decide) g cs hg') (Nat.le_refl _), fun e he => (hv.fp e he).keep h2 (fun g cs _ hg' => hoff 44 (by decide) g cs hg') (Nat.le_refl _), hrow, ?_, by simp [h.num], ?_, ?_, h.gb, h.small, h.hbB⟩
  · rw [← List.append_assoc]; exact h1
  · intro e he
    rcases List.mem_append.1 he with he | he
    · exact ⟨(hv.fn e he).1.keep h2 (fun g cs _ hg' => hoff 3 (by decide) g cs hg') hsz, (hv.fn e he).2⟩
    · simp only [List.mem_singleton] at he
      subst he
      exact ⟨hE, Nat.le_refl _, rfl⟩
  · exact keeps_step hv.keep h2 (fun j hj e => e.elim .inl (fun e => (hv.ivb j e).elim (fun e => .inr (.inl e)) (fun e => by omega)))
  · intro j hj
    have e : g' = j := by simpa [Value.ownBlock] using hj
    subst e
    rcases hat with e | e
    · exact h.ivb _ e
    · exact .inr (by omega)

/-- the list has grown by one -/
theorem TookN.grow {w : World} {B base bb : Nat} {m x : Int} {iv0 lv pv : Value} {is ps : List Ent} {len c : Nat} {iv : Value} {go : Option Addr} {gc : Nat} {new : List Ent} {wr V W : World} {g' cap' : Nat} (h : TookN w B base bb m x iv0 lv pv is ps len c iv go gc new wr) (hb : Below wr.heap.size wr V)
    (ho : W.ownsRow B 3 1 (.slice (some ⟨g', 0, none⟩) (len + 1) cap') (len + 1) (List.replicate len (.int .i64 x) ++ [.int .i64 x])) (hg : ((Value.slice go len gc).ownBlock = some g' ∧ V.grownBy W (some g')) ∨ (g' = V.heap.size ∧ V.grownBy W none)) (hl : len + 1 ≤ 1000) :
    TookN w B base bb m x iv0 lv pv is ps (len + 1) c iv (some ⟨g', 0, none⟩) cap' new W := by
  have hv := h.below hb
  have hwv := hv.keep.size
  have hrow : W.ownsRow B 3 1 (.slice (some ⟨g', 0, none⟩) (len + 1) cap') (len + 1) (List.replicate (len + 1) (.int .i64 x)) := by rw [List.replicate_succ']; exact ho
  rcases hg with ⟨e1, hg⟩ | ⟨e1, hg⟩
  · have hk : Keeps (fun k => k = g') V W := (Keeps.refl _ V).grown hg (fun k e => .inr (by cases e; rfl))
    have hB := (hv.row.lt g' e1).1
    have hgl : g' < V.heap.size := (hv.row.lt g' e1).2
    have hrn1 : ∀ k, iv.ownBlock = some k → ¬ k = g' := fun k e2 e3 => rows_ne hv.rows.ints hv.row (by decide) (by rw [e2]; simp) (by rw [e2, e1, e3])
    have hrn2 : ∀ k, pv.ownBlock = some k → ¬ k = g' := fun k e2 e3 => rows_ne hv.rows.pairs hv.row (by decide) (by rw [e2]; simp) (by rw [e2, e1, e3])
    have hty : ∃ cur, V.heap[g']? = some (.cells cur 3 (0, 0)) := by
      rcases hv.row.2 with ⟨e, _⟩ | ⟨g0, cap0, cur, e, _, hg0, _⟩
      · rw [e] at e1; simp [Value.ownBlock] at e1
      · rw [e] at e1
        have : g0 = g' := by simpa [Value.ownBlock] using e1
        subst this
        exact ⟨cur, hg0⟩
    refine ⟨hv.rows.keep hk (by have := hv.hbB; omega) hrn1 hrn2, fun e he => (hv.fi e he).keep hk (fun g cs hg' _ => by omega) (Nat.le_refl _), fun e he => (hv.fp e he).keep hk (fun g cs hg' _ => by omega) (Nat.le_refl _), hrow, ?_, h.num, ?_, h.ivb, ?_, hl, h.hbB⟩
    · intro e he
      obtain ⟨f1, f2, f3⟩ := hv.fn e he
      refine ⟨⟨f1.1, fun i hi => ?_⟩, by omega, f3⟩
      obtain ⟨g0, a1, a2, ⟨cs, a3⟩, a4⟩ := f1.2 i hi
      by_cases hgg : g0 = g'
      · subst hgg
        rcases hrow.2 with ⟨e, hz⟩ | ⟨g1, cap1, cur, e, _, hg1, _⟩
        · omega
        · simp only [Value.slice.injEq, Option.some.injEq, Addr.mk.injEq, and_true, true_and] at e
          obtain ⟨rfl, rfl⟩ := e
          refine ⟨g0, a1, (Array.getElem?_eq_some_iff.1 hg1).1, ⟨cur, hg1⟩, ?_⟩
          rw [hrow.cellAt i (by omega), f3]
          have : i < len + 1 := by omega
          simp [this]
      · have hbk := hk.block g0 a2 hgg
        exact ⟨g0, a1, Nat.lt_of_lt_of_le a2 hk.size, ⟨cs, hbk.trans a3⟩, (World.cell?_of_block (a := ⟨g0, i, none⟩) hbk).trans a4⟩
    · exact keeps_step hv.keep hk (fun j hj e => by
        subst e
        rcases hv.gb _ e1 with e | e
        · exact .inr (.inr e)
        · omega)
    · intro j hj
      have e : g' = j := by simpa [Value.ownBlock] using hj
      subst e
      exact hv.gb _ e1
  · have hk : Keeps (fun _ => False) V W := (Keeps.refl _ V).grown hg (fun k e => by cases e)
    refine ⟨hv.rows.keep hk (fun x => x) (fun _ _ x => x) (fun _ _ x => x), fun e he => (hv.fi e he).keep hk (fun _ _ _ _ x => x) (Nat.le_refl _), fun e he => (hv.fp e he).keep hk (fun _ _ _ _ x => x) (Nat.le_refl _), hrow, fun e he => ⟨(hv.fn e he).1.keep hk (fun _ _ _ _ x => x) hk.size, by have := (hv.fn e he).2.1; omega, (hv.fn e he).2.2⟩, h.num, hv.keep.trans (hk.mono (fun _ _ x => x.elim)), h.ivb, ?_, hl, h.hbB⟩
    intro j hj
    have e : g' = j := by simpa [Value.ownBlock] using hj
    subst e
    exact .inr (by omega)

set_option maxRecDepth 100000 in
set_option maxHeartbeats 4000000 in
theorem takeInts_any (w : World) (B base bb n : Nat) (iv pv : Value) (is ps : List Ent) (lo mo : Option Addr) (lc mc : Nat) (T : List Int) (hbk : Book w B base bb n iv pv is ps) (hl : w.ownsRow B 3 1 (.slice lo T.length lc) T.length (T.map (Value.int .i64))) (hm : HoldsN w mo T) (hT : T.length ≤ 256) (hn : n ≤ 1000) (hfew : is.length ≤ 90) (hbB : bb < B) (hB : B ≤ w.heap.size) (hbase : base ≤ w.heap.size) :
    Calls Try.prog 20 #[.pointer (some ⟨bb, 0, none⟩), .slice lo T.length lc, .slice mo T.length mc] w fun e w' => e = .returned (.bool true) ∧ ∃ iv' is', BookR w' base bb (n + 1 : Nat) iv' pv is' ps ∧ (∀ e, e ∈ is' → FullN w' w'.heap.size e) ∧ (∀ e, e ∈ ps → FullP w' B e) ∧ is'.length = is.length + 4 ∧ Keeps (fun k => k = bb ∨ iv.ownBlock = some k ∨ (Value.slice lo T.length lc).ownBlock = some k) w w' := by
  have hsame := lawSame_yes lo mo lc mc T w (by omega) (holdsN_own hl) hm
  obtain ⟨b0, b1, b2, bz⟩ := book_cells hbk.blk
  have hlt : bb < w.heap.size := (Array.getElem?_eq_some_iff.1 hbk.blk).1
  have bz0 := bz 0
  go_enter Try.func20, Try.ntmps20
  go_wp2_with fail
  refine hsame.mono ?_
  rintro e w1 ⟨rfl, q, rfl⟩
  go_wp2
  obtain ⟨w2, hw2⟩ : ∃ w2, w2 = (w.drewN q).setCell ⟨bb, 0, none⟩ (.int .i64 ((n : Int) + 1)) := ⟨_, rfl⟩
  have hk2 : Keeps (· = bb) w w2 := by rw [hw2]; exact Keeps.setCell (S := (· = bb)) (p := ⟨bb, 0, none⟩) ((Keeps.refl _ w).drewN q) (.inr rfl) _
  have hr2 : BookR w2 base bb ((n : Int) + 1) iv pv is ps := by rw [hw2]; exact (hbk.rows.keep ((Keeps.refl (fun _ => False) w).drewN q) (fun x => x) (fun _ _ x => x) (fun _ _ x => x)).setN _
  have hl2 : w2.ownsRow B 3 1 (.slice lo T.length lc) T.length (T.map (Value.int .i64)) := by rw [hw2]; exact own_set (p := ⟨bb, 0, none⟩) (own_drewN hl q) (own_ge2 hl hbB) _
  have hfi2 : ∀ e, e ∈ is → FullN w2 B e := fun e he => (hbk.fi e he).keep hk2 (fun g cs _ hg => (hbk.rows.off (by decide) hg).1) (Nat.le_refl _)
  have hfp2 : ∀ e, e ∈ ps → FullP w2 B e := fun e he => (hbk.fp e he).keep hk2 (fun g cs _ hg => (hbk.rows.off (by decide) hg).1) (Nat.le_refl _)
  rw [← hw2]
  clear hsame hm hl hw2 b0 b1 b2 bz bz0
  go_loopw [8] (fun j wr => ∃ k : Nat, k ≤ T.length ∧ j = .int .i64 k ∧ wr.ownsRow B 3 1 (.slice lo T.length lc) T.length (List.replicate k (.int .i64 (-((n : Int) + 1))) ++ (T.map (Value.int .i64)).drop k) ∧ Keeps (fun j => (Value.slice lo T.length lc).ownBlock = some j) w2 wr) (fun j _ => T.length - (intOf j).toNat)
  case atStart => exact ⟨0, Nat.zero_le _, rfl, hl2, Keeps.refl _ _⟩
  case round =>
    obtain ⟨k, hk, rfl, hrow, hkp⟩ := hrel
    have hr3 : BookR wr base bb ((n : Int) + 1) iv pv is ps := hr2.keep hkp (own_ge2 hl2 hbB) (fun k e1 e2 => rows_ne hr2.ints hl2 (by decide) (by rw [e1]; simp) (e1.trans e2.symm)) (fun k e1 e2 => rows_ne hr2.pairs hl2 (by decide) (by rw [e1]; simp) (e1.trans e2.symm))
    obtain ⟨b0, b1, b2, bz⟩ := book_cells hr3.blk
    have hltr : bb < wr.heap.size := (Array.getElem?_eq_some_iff.1 hr3.blk).1
    by_cases hltk : k < T.length
    · obtain ⟨g, cap0, e0, _, _⟩ := hrow.form (by omega)
      simp only [Value.slice.injEq] at e0
      obtain ⟨rfl, _, rfl⟩ := e0
      have c0 : wr.cell? ⟨g, k, none⟩ = some (.int .i64 T[k]) := by
        rw [hrow.cellAt k (by omega), List.getElem?_append_right (by simp)]
        simp [hltk]
      have f0 := hrow.frozenAt k
      have hst := hrow.stored k (.int .i64 (-((n : Int) + 1)))
      have hk0 : (0 : Int) ≤ (k : Int) := by omega
      have hk1 : (k : Int) < (T.length : Int) := by omega
      have HROW : Hid _ := hst.1
      have HKP : Hid (Keeps (fun j => (Value.slice (some ⟨g, 0, none⟩) T.length lc).ownBlock = some j) w2 (wr.setCell ⟨g, k, none⟩ (.int .i64 (-((n : Int) + 1))))) := Keeps.setCell (p := ⟨g, k, none⟩) hkp (.inr rfl) _
      have HSET : Hid ((List.replicate k (Value.int .i64 (-((n : Int) + 1))) ++ (T.map (Value.int .i64)).drop k).set k (.int .i64 (-((n : Int) + 1))) = List.replicate (k + 1) (Value.int .i64 (-((n : Int) + 1))) ++ (T.map (Value.int .i64)).drop (k + 1)) := rep_set _ _ _ (by simpa using hltk)
      clear hrow hst hkp
      generalize T[k] = tk at *
      go_wp2
      go_roundw
      case rel => exact ⟨k + 1, by omega, by go_num, by rw [← HSET.out]; exact HROW.out, HKP.out⟩
      case measure => simp [intOf]; omega
    · have ek : k = T.length := by omega
      subst ek
      have hrow2 : wr.ownsRow B 3 1 (.slice lo T.length lc) T.length (List.replicate T.length (.int .i64 (-((n : Int) + 1)))) := by
        have e : (T.map (Value.int .i64)).drop T.length = [] := by simp
        rw [e, List.append_nil] at hrow
        exact hrow
      have hfi3 : ∀ e, e ∈ is → FullN wr B e := fun e he => (hfi2 e he).keep hkp (fun g cs hg _ e => by have := (hl2.lt g e).1; omega) (Nat.le_refl _)
      have hfp3 : ∀ e, e ∈ ps → FullP wr B e := fun e he => (hfp2 e he).keep hkp (fun g cs hg _ e => by have := (hl2.lt g e).1; omega) (Nat.le_refl _)
      have hk3 : Keeps (fun k => k = bb ∨ iv.ownBlock = some k ∨ (Value.slice lo T.length lc).ownBlock = some k) w wr := (hk2.mono (fun _ _ x => .inl x)).trans (hkp.mono (fun _ _ x => .inr (.inr x)))
      have HFI3 : Hid (∀ e, e ∈ is → FullN wr B e) := hfi3
      have HFP3 : Hid (∀ e, e ∈ ps → FullP wr B e) := hfp3
      have HK3 : Hid (Keeps (fun k => k = bb ∨ iv.ownBlock = some k ∨ (Value.slice lo T.length lc).ownBlock = some k) w wr) := hk3
      have HR3 : Hid (BookR wr base bb ((n : Int) + 1) iv pv is ps) := hr3
      have HL3 : Hid (wr.ownsRow B 3 1 (.slice lo T.length lc) T.length (List.replicate T.length (.int .i64 (-((n : Int) + 1))))) := hrow2
      have hsz3 := hk3.size
      obtain ⟨io, ic, rfl⟩ := own_form hr3.ints
      have bz1 := bz 1
      obtain ⟨i0, hi0, hz0, hz1, hz2⟩ := info_parts Try.info50
      clear hrow hkp hrow2 hfi3 hfp3 hk3 hr3 hfi2 hfp2 hl2 hr2 hk2 bz
      go_wp2
      have HOWN : Hid (∀ W : World, Below wr.heap.size wr W → W.ownsRow base 50 2 (Value.slice io is.length ic) is.length (entCells is)) := fun W h => own_below HR3.out.ints h
      have HS3 : Hid (∀ W : World, W.heap[bb]? = wr.heap[bb]? → W.cell? ⟨bb, 1, none⟩ = some (Value.slice io is.length ic) ∧ W.frozen? ⟨bb, 1, none⟩ = false ∧ W.cell? ⟨bb, 0, none⟩ = some (.int .i64 ((n : Int) + 1))) := by
        intro W e1
        exact ⟨(World.cell?_of_block (a := ⟨bb, 1, none⟩) e1).trans b1, (World.frozen?_of_block (a := ⟨bb, 1, none⟩) e1).trans bz1, (World.cell?_of_block (a := ⟨bb, 0, none⟩) e1).trans b0⟩
      have KEEP : Hid (∀ W : World, Below wr.heap.size wr W → W.cell? ⟨bb, 1, none⟩ = some (Value.slice io is.length ic) ∧ W.frozen? ⟨bb, 1, none⟩ = false ∧ W.cell? ⟨bb, 0, none⟩ = some (.int .i64 ((n : Int) + 1))) := fun W h => HS3.out W (h.block _ hltr)
      have KEEPG : Hid (∀ V W : World, Below wr.heap.size wr V → V.grownBy W ((Value.slice io is.length ic)).ownBlock → W.cell? ⟨bb, 1, none⟩ = some (Value.slice io is.length ic) ∧ W.frozen? ⟨bb, 1, none⟩ = false ∧ W.cell? ⟨bb, 0, none⟩ = some (.int .i64 ((n : Int) + 1))) := by
        intro V W h hg
        have hk : Keeps (fun j => ((Value.slice io is.length ic)).ownBlock = some j) V W := (Keeps.refl _ V).grown hg (fun k e => .inr e)
        have hs := h.size
        exact HS3.out W ((hk.block _ (by omega) (own_ge2 HR3.out.ints HR3.out.low)).trans (h.block _ hltr))
      have h63 : is.length + 1 ≤ maxLen := by unfold maxLen; omega
      have hby : (is.length + 1) * 32 ≤ 140737488355328 := by omega
      have HA : Hid (TookN w B base bb ((n : Int) + 1) (-((n : Int) + 1)) (.slice io is.length ic) (.slice lo T.length lc) pv is ps T.length 0 (.slice io is.length ic) lo lc [] wr) :=
        ⟨by rw [List.append_nil]; exact HR3.out, HFI3.out, HFP3.out, HL3.out, (fun e he => by cases he), rfl, HK3.out, fun j h => .inl h, fun j h => .inl h, by omega, hbB⟩
      have HFIN : Hid (∀ (V W : World) (g' cap' : Nat), Below wr.heap.size wr V → V.heap.size = wr.heap.size + 1 → V.grownBy W (Value.slice io is.length ic).ownBlock → W.ownsRow base 50 2 (.slice (some ⟨g', 0, none⟩) (is.length + 1) cap') (is.length + 1) (entCells is ++ [.slice lo T.length lc, .int .i64 (-((n : Int) + 1))]) → ((Value.slice io is.length ic).ownBlock = some g' ∨ g' = wr.heap.size + 1) →
          TookN w B base bb ((n : Int) + 1) (-((n : Int) + 1)) (.slice io is.length ic) (.slice lo T.length lc) pv is ps T.length 1 (.slice (some ⟨g', 0, none⟩) (is.length + 1) cap') lo lc [⟨lo, T.length, lc, -((n : Int) + 1)⟩] (W.setCell ⟨bb, 1, none⟩ (.slice (some ⟨g', 0, none⟩) (is.length + 1) cap'))) := by
        intro V W g' cap' hb hv hg ho hat
        have := HA.out.enter (g' := g') (cap' := cap') hb (by simp; omega) hg (by rw [List.append_nil]; exact ho) (hat.imp id (fun e => by omega))
        rw [List.append_nil] at this
        exact this
      have hneg := neg_wrap n hn
      obtain ⟨v1, v2, v3⟩ := KEEP.out (wr.alloc (Obj.cells #[.slice lo T.length lc, .int .i64 (-((n : Int) + 1))] 50)).drew (by repeat (first | exact Below.refl _ _ | refine Below.alloc ?_ (by simp) _ | refine Below.drew ?_ | refine Below.drewN' ?_ _))
      go_region_law ((refine step_append_lies _ (by rfl) _ _ 29 (by rfl) base 50 i0 _ 2 32 Try.underlying29 hi0 hz0 hz1 hz2 (by rfl) (by decide) (Value.slice io is.length ic) is.length (entCells is) (by rfl) (HOWN.out _ (by repeat (first | exact Below.refl _ _ | refine Below.alloc ?_ (by simp) _ | refine Below.drew ?_ | refine Below.drewN' ?_ _))) _ 1 1 [.slice lo T.length lc, .int .i64 (-((n : Int) + 1))] (by rfl) (by rfl) (news_new _ _ _) (by intro u hu; simp at hu; rcases hu with rfl | rfl <;> rfl) (by decide) h63 hby (by simp; omega) (wr.heap.size + 1) (by simp) ?_; intro g' cap' w3 hown3 hgrow hat hlt'; obtain ⟨s1, s2, s3⟩ := KEEPG.out _ _ (by repeat (first | exact Below.refl _ _ | refine Below.alloc ?_ (by simp) _ | refine Below.drew ?_ | refine Below.drewN' ?_ _)) hgrow))
      all_goals
        have HT4 : Hid _ := HFIN.out _ _ _ _ (by repeat (first | exact Below.refl _ _ | refine Below.alloc ?_ (by simp) _ | refine Below.drew ?_ | refine Below.drewN' ?_ _)) (by simp) hgrow hown3 hat
        have hsz4 := HT4.out.keep.size
        clear hneg hgrow hown3 hat hlt' s1 s2 s3 v1 v2 v3 HFIN HA KEEPG KEEP HS3 HOWN h63 hby HL3 HK3 HFI3 HFP3 HR3 b0 b1 b2 bz1
        go_wp2
        go_loopw [9, 10] (fun gv j wq => ∃ (k : Nat) (iv' : Value) (go : Option Addr) (gc : Nat) (new : List Ent), k ≤ 3 ∧ j = .int .i64 k ∧ gv = .slice go (T.length + k) gc ∧ TookN w B base bb ((n : Int) + 1) (-((n : Int) + 1)) (.slice io is.length ic) (.slice lo T.length lc) pv is ps (T.length + k) (k + 1) iv' go gc new wq) (fun _ j _ => 3 - (intOf j).toNat)
        case atStart => exact ⟨0, _, _, _, _, by omega, rfl, rfl, HT4.out⟩
        case round =>
          clear HT4
          obtain ⟨k, iv', go, gc, new, hk3, rfl, rfl, ht⟩ := hrel
          have HT : Hid _ := ht
          obtain ⟨b0, b1, b2, bz⟩ := book_cells ht.rows.blk
          have hbr : bb < wr.heap.size := (Array.getElem?_eq_some_iff.1 ht.rows.blk).1
          have hszr := ht.keep.size
          obtain ⟨j0, hj0, hy0, hy1, hy2⟩ := info_parts Try.info3
          by_cases hk : k < 3
          · have hrow := ht.row
            clear ht bz b2
            go_wp2_with (at_builtin; refine wpList_append_kept _ rfl _ _ 37 rfl B 3 j0 _ 1 8 Try.underlying37 hj0 hy0 hy1 hy2 rfl (by decide) _ _ _ rfl (hrow.alloc _) ⟨wr.heap.size, 0, none⟩ 1 1 [.int .i64 (-((n : Int) + 1))] rfl rfl ?c1 ?c2 (by decide) ?c3 ?c4 ?c5 ?_)
            case c1 => exact news_new wr [.int .i64 (-((n : Int) + 1))] 3
            case c2 => intro u hu; simp at hu; subst hu; rfl
            case c3 => unfold maxLen; omega
            case c4 => omega
            case c5 => simp; omega
            intro g5 cap5 w5 hown5 hg5
            have ht5 := HT.out.grow ((Below.refl _ wr).alloc (Nat.le_refl _) (.cells #[.int .i64 (-((n : Int) + 1))] 3)) hown5 (hg5.imp id (fun h => ⟨by simpa using h.1, h.2⟩)) (by omega)
            have HT5 : Hid _ := ht5
            obtain ⟨b0, b1, b2, bz⟩ := book_cells ht5.rows.blk
            have hb5 : bb < w5.heap.size := (Array.getElem?_eq_some_iff.1 ht5.rows.blk).1
            have hsz5 := ht5.keep.size
            obtain ⟨io5, ic5, rfl⟩ := own_form ht5.rows.ints
            have bz1 := bz 1
            have hlen5 : (is ++ new).length = is.length + (k + 1) := by rw [List.length_append, HT.out.num]
            clear hown5 hg5 ht5 bz hrow HT
            generalize hLL : (is ++ new).length = LL at *
            have HLL : Hid ((is ++ new).length = LL) := hLL
            have hL1 : LL ≤ is.length + 4 := by omega
            clear hLL hlen5
            go_wp2
            have HOWN : Hid (∀ W : World, Below w5.heap.size w5 W → W.ownsRow base 50 2 (Value.slice io5 LL ic5) LL (entCells (is ++ new))) := fun W h => by have := own_below HT5.out.rows.ints h; rw [HLL.out] at this; exact this
            have HS3 : Hid (∀ W : World, W.heap[bb]? = w5.heap[bb]? → W.cell? ⟨bb, 1, none⟩ = some (Value.slice io5 LL ic5) ∧ W.frozen? ⟨bb, 1, none⟩ = false ∧ W.cell? ⟨bb, 0, none⟩ = some (.int .i64 ((n : Int) + 1))) := by
              intro W e1
              exact ⟨(World.cell?_of_block (a := ⟨bb, 1, none⟩) e1).trans b1, (World.frozen?_of_block (a := ⟨bb, 1, none⟩) e1).trans bz1, (World.cell?_of_block (a := ⟨bb, 0, none⟩) e1).trans b0⟩
            have KEEP : Hid (∀ W : World, Below w5.heap.size w5 W → W.cell? ⟨bb, 1, none⟩ = some (Value.slice io5 LL ic5) ∧ W.frozen? ⟨bb, 1, none⟩ = false ∧ W.cell? ⟨bb, 0, none⟩ = some (.int .i64 ((n : Int) + 1))) := fun W h => HS3.out W (h.block _ hb5)
            have KEEPG : Hid (∀ V W : World, Below w5.heap.size w5 V → V.grownBy W ((Value.slice io5 LL ic5)).ownBlock → W.cell? ⟨bb, 1, none⟩ = some (Value.slice io5 LL ic5) ∧ W.frozen? ⟨bb, 1, none⟩ = false ∧ W.cell? ⟨bb, 0, none⟩ = some (.int .i64 ((n : Int) + 1))) := by
              intro V W h hg
              have hk : Keeps (fun j => ((Value.slice io5 LL ic5)).ownBlock = some j) V W := (Keeps.refl _ V).grown hg (fun k e => .inr e)
              have hs := h.size
              exact HS3.out W ((hk.block _ (by omega) (own_ge2 HT5.out.rows.ints HT5.out.rows.low)).trans (h.block _ hb5))
            have h63 : LL + 1 ≤ maxLen := by unfold maxLen; omega
            have hby : (LL + 1) * 32 ≤ 140737488355328 := by omega
            have HFIN : Hid (∀ (V W : World) (g' cap' : Nat), Below w5.heap.size w5 V → V.heap.size = w5.heap.size + 1 → V.grownBy W (Value.slice io5 LL ic5).ownBlock → W.ownsRow base 50 2 (.slice (some ⟨g', 0, none⟩) (LL + 1) cap') (LL + 1) (entCells (is ++ new) ++ [.slice (some ⟨g5, 0, none⟩) (T.length + k + 1) cap5, .int .i64 (-((n : Int) + 1))]) → ((Value.slice io5 LL ic5).ownBlock = some g' ∨ g' = w5.heap.size + 1) →
                TookN w B base bb ((n : Int) + 1) (-((n : Int) + 1)) (.slice io is.length ic) (.slice lo T.length lc) pv is ps (T.length + k + 1) (k + 1 + 1) (.slice (some ⟨g', 0, none⟩) (LL + 1) cap') (some ⟨g5, 0, none⟩) cap5 (new ++ [⟨some ⟨g5, 0, none⟩, T.length + k + 1, cap5, -((n : Int) + 1)⟩]) (W.setCell ⟨bb, 1, none⟩ (.slice (some ⟨g', 0, none⟩) (LL + 1) cap'))) := by
              intro V W g' cap' hb hv hg ho hat
              have hx := HT5.out.enter (g' := g') (cap' := cap') hb (by rw [HLL.out]; omega) hg (by rw [HLL.out]; exact ho) (hat.imp id (fun e => by omega))
              rw [HLL.out] at hx
              exact hx
            have hneg := neg_wrap n hn
            obtain ⟨v1, v2, v3⟩ := KEEP.out (w5.alloc (Obj.cells #[.slice (some ⟨g5, 0, none⟩) (T.length + k + 1) cap5, .int .i64 (-((n : Int) + 1))] 50)).drew (by repeat (first | exact Below.refl _ _ | refine Below.alloc ?_ (by simp) _ | refine Below.drew ?_ | refine Below.drewN' ?_ _))
            go_region_law ((refine step_append_lies _ (by rfl) _ _ 29 (by rfl) base 50 i0 _ 2 32 Try.underlying29 hi0 hz0 hz1 hz2 (by rfl) (by decide) (Value.slice io5 LL ic5) LL (entCells (is ++ new)) (by rfl) (HOWN.out _ (by repeat (first | exact Below.refl _ _ | refine Below.alloc ?_ (by simp) _ | refine Below.drew ?_ | refine Below.drewN' ?_ _))) _ 1 1 [.slice (some ⟨g5, 0, none⟩) (T.length + k + 1) cap5, .int .i64 (-((n : Int) + 1))] (by rfl) (by rfl) (news_new _ _ _) (by intro u hu; simp at hu; rcases hu with rfl | rfl <;> rfl) (by decide) h63 hby (by simp; omega) (w5.heap.size + 1) (by simp) ?_; intro g' cap' w3 hown3 hgrow hat hlt'; obtain ⟨s1, s2, s3⟩ := KEEPG.out _ _ (by repeat (first | exact Below.refl _ _ | refine Below.alloc ?_ (by simp) _ | refine Below.drew ?_ | refine Below.drewN' ?_ _)) hgrow))
            all_goals (clear hneg; go_wp2)
            all_goals (first | go_roundw | skip)
            all_goals first
              | (exact ⟨k + 1, _, _, _, _, by omega, by go_num, rfl, HFIN.out _ _ _ _ (by repeat (first | exact Below.refl _ _ | refine Below.alloc ?_ (by simp) _ | refine Below.drew ?_ | refine Below.drewN' ?_ _)) (by simp) hgrow hown3 hat⟩)
              | (simp [intOf]; omega)
          · have ek : k = 3 := by omega
            subst ek
            clear ht
            go_wp2
            go_ret
            have hx := HT.out
            have e1 : ((n + 1 : Nat) : Int) = (n : Int) + 1 := by omega
            refine ⟨rfl, iv', is ++ new, by rw [e1]; exact hx.rows, ?_, hx.fp, by rw [List.length_append, hx.num], hx.keep⟩
            intro e he
            rcases List.mem_append.1 he with he | he
            · exact (hx.fi e he).lift (Nat.le_refl _)
            · exact (hx.fn e he).1

end Go.Proofs.Ytedbdejhpjkofaa
