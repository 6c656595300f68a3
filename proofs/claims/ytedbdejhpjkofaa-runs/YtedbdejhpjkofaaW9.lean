import Derived.Test.YtedbdejhpjkofaaW8
import Derived.Deep.QuietTactic
import Derived.BigQuiet
import Derived.Deep.AppendLies
namespace Go.Proofs.Ytedbdejhpjkofaa
open Go.RowKit
set_option linter.unusedVariables false
set_option linter.unusedSimpArgs false

/-- the world has at most new blocks, and of the old ones those of which S holds may have turned -/
structure Keeps (S : Nat → Prop) (w w' : World) : Prop where
  os : w'.os = w.os
  tape : w'.tape = w.tape
  output : w'.output = w.output
  size : w.heap.size ≤ w'.heap.size
  block : ∀ k, k < w.heap.size → ¬ S k → w'.heap[k]? = w.heap[k]?

theorem Keeps.refl (S : Nat → Prop) (w : World) : Keeps S w w := ⟨rfl, rfl, rfl, Nat.le_refl _, fun _ _ _ => rfl⟩
theorem Keeps.trans {S : Nat → Prop} {a b c : World} (h : Keeps S a b) (k : Keeps S b c) : Keeps S a c :=
  ⟨k.os.trans h.os, k.tape.trans h.tape, k.output.trans h.output, Nat.le_trans h.size k.size, fun i hi hs => (k.block i (Nat.lt_of_lt_of_le hi h.size) hs).trans (h.block i hi hs)⟩
theorem Keeps.mono {S T : Nat → Prop} {a b : World} (h : Keeps S a b) (hm : ∀ k, k < a.heap.size → S k → T k) : Keeps T a b := ⟨h.os, h.tape, h.output, h.size, fun k hk ht => h.block k hk (fun hs => ht (hm k hk hs))⟩
theorem Keeps.drewN {S : Nat → Prop} {a w : World} (h : Keeps S a w) (n : Nat) : Keeps S a (w.drewN n) := ⟨h.os, h.tape, h.output, h.size, h.block⟩
theorem Keeps.alloc {S : Nat → Prop} {a w : World} (h : Keeps S a w) (o : Obj) : Keeps S a (w.alloc o) :=
  h.trans ⟨rfl, rfl, rfl, by simp, fun k hk _ => Below.heap_alloc _ _ _ hk⟩
theorem Keeps.setCell {S : Nat → Prop} {a w : World} (h : Keeps S a w) {p : Addr} (hp : a.heap.size ≤ p.block ∨ S p.block) (u : Value) : Keeps S a (w.setCell p u) := by
  refine ⟨h.os, h.tape, h.output, Nat.le_trans h.size (by simp [World.setCell]), fun k hk hs => ?_⟩
  have hne : k ≠ p.block := by
    intro e
    rcases hp with hp | hp
    · omega
    · exact hs (e ▸ hp)
  exact (Below.heap_setCell _ _ _ _ hne).trans (h.block k hk hs)
theorem Keeps.grown {S : Nat → Prop} {a w w' : World} {row : Option Nat} (h : Keeps S a w) (hg : w.grownBy w' row) (hr : ∀ k, row = some k → a.heap.size ≤ k ∨ S k) : Keeps S a w' := by
  refine ⟨hg.os.trans h.os, hg.tape.trans h.tape, hg.output.trans h.output, Nat.le_trans h.size hg.size, fun k hk hs => ?_⟩
  have hne : some k ≠ row := by
    intro e
    rcases hr k e.symm with h' | h'
    · omega
    · exact hs h'
  exact (hg.block k (Nat.lt_of_lt_of_le hk h.size) hne).trans (h.block k hk hs)
theorem Keeps.below {S : Nat → Prop} {a w : World} {B : Nat} (h : Keeps S a w) (hB : B ≤ a.heap.size) (hS : ∀ k, S k → B ≤ k) : Below B a w :=
  ⟨h.os, h.tape, h.output, h.size, fun k hk => h.block k (by omega) (fun hs => by have := hS k hs; omega)⟩
theorem Keeps.of_below {S : Nat → Prop} {a w : World} (h : Below a.heap.size a w) : Keeps S a w := ⟨h.os, h.tape, h.output, h.size, fun k hk _ => h.block k hk⟩

/-- the cells of a machine -/
def mcells (rs : List Int) (snap wrt told rds : Value) : Array Value := (rs.map (Value.int .i64) ++ [snap, .int .i64 0, told, rds, wrt]).toArray

theorem mreg {w : World} {bm : Nat} {rs : List Int} {snap wrt told rds : Value} (hM : w.heap[bm]? = some (.cells (mcells rs snap wrt told rds) 82 (0, 0))) (a : Nat) (ha : a < rs.length) : w.cell? ⟨bm, a, none⟩ = some (.int .i64 (rs.getD a 0)) := by
  rw [cell_of_row w bm a _ 82 (0, 0) hM]
  simp [mcells, List.getElem?_append_left, ha]

theorem mtold {w : World} {bm : Nat} {rs : List Int} {snap wrt told rds : Value} (hM : w.heap[bm]? = some (.cells (mcells rs snap wrt told rds) 82 (0, 0))) (hr : rs.length = 8) : w.cell? ⟨bm, 10, none⟩ = some told := by
  rw [cell_of_row w bm 10 _ 82 (0, 0) hM]
  simp [mcells, List.getElem?_append_right, hr]
theorem mwrt {w : World} {bm : Nat} {rs : List Int} {snap wrt told rds : Value} (hM : w.heap[bm]? = some (.cells (mcells rs snap wrt told rds) 82 (0, 0))) (hr : rs.length = 8) : w.cell? ⟨bm, 12, none⟩ = some wrt := by
  rw [cell_of_row w bm 12 _ 82 (0, 0) hM]
  simp [mcells, List.getElem?_append_right, hr]
theorem mrds {w : World} {bm : Nat} {rs : List Int} {snap wrt told rds : Value} (hM : w.heap[bm]? = some (.cells (mcells rs snap wrt told rds) 82 (0, 0))) (hr : rs.length = 8) : w.cell? ⟨bm, 11, none⟩ = some rds := by
  rw [cell_of_row w bm 11 _ 82 (0, 0) hM]
  simp [mcells, List.getElem?_append_right, hr]
theorem msnap {w : World} {bm : Nat} {rs : List Int} {snap wrt told rds : Value} (hM : w.heap[bm]? = some (.cells (mcells rs snap wrt told rds) 82 (0, 0))) (hr : rs.length = 8) : w.cell? ⟨bm, 8, none⟩ = some snap := by
  rw [cell_of_row w bm 8 _ 82 (0, 0) hM]
  simp [mcells, List.getElem?_append_right, hr]

theorem mfree {w : World} {bm : Nat} {cs : Array Value} (hM : w.heap[bm]? = some (.cells cs 82 (0, 0))) (a : Nat) : w.frozen? ⟨bm, a, none⟩ = false := by
  simp [World.frozen?, hM]

theorem m_set {w : World} {bm : Nat} {rs : List Int} {snap wrt told rds : Value} (hM : w.heap[bm]? = some (.cells (mcells rs snap wrt told rds) 82 (0, 0))) (a : Nat) (ha : a < rs.length) (v : Int) :
    (w.setCell ⟨bm, a, none⟩ (.int .i64 v)).heap[bm]? = some (.cells (mcells (rs.set a v) snap wrt told rds) 82 (0, 0)) := by
  rw [heap_setCell_same w bm a _ 82 _ hM]
  congr 2
  apply Array.ext'
  simp [mcells, List.set_append, ha, List.map_set]

theorem m_tell {w : World} {bm : Nat} {rs : List Int} {snap wrt told rds : Value} (hM : w.heap[bm]? = some (.cells (mcells rs snap wrt told rds) 82 (0, 0))) (hr : rs.length = 8) (v : Value) :
    (w.setCell ⟨bm, 10, none⟩ v).heap[bm]? = some (.cells (mcells rs snap wrt v rds) 82 (0, 0)) := by
  rw [heap_setCell_same w bm 10 _ 82 _ hM]
  congr 2
  apply Array.ext'
  simp [mcells, List.set_append, hr]

theorem m_read {w : World} {bm : Nat} {rs : List Int} {snap wrt told rds : Value} (hM : w.heap[bm]? = some (.cells (mcells rs snap wrt told rds) 82 (0, 0))) (hr : rs.length = 8) (v : Value) :
    (w.setCell ⟨bm, 11, none⟩ v).heap[bm]? = some (.cells (mcells rs snap wrt told v) 82 (0, 0)) := by
  rw [heap_setCell_same w bm 11 _ 82 _ hM]
  congr 2
  apply Array.ext'
  simp [mcells, List.set_append, hr]

theorem m_later {w w' : World} {S : Nat → Prop} {bm : Nat} {o : Obj} (hM : w.heap[bm]? = some o) (h : Keeps S w w') (hs : ¬ S bm) : w'.heap[bm]? = some o :=
  (h.block bm (Array.getElem?_eq_some_iff.1 hM).1 hs).trans hM

theorem own_drewN {w : World} {base e size n : Nat} {v : Value} {xs : List Value} (h : w.ownsRow base e size v n xs) (q : Nat) : (w.drewN q).ownsRow base e size v n xs := h

theorem own_ne {w : World} {base e size n bm t : Nat} {v : Value} {xs : List Value} {cs : Array Value} (h : w.ownsRow base e size v n xs) (hM : w.heap[bm]? = some (.cells cs t (0, 0))) (hne : e ≠ t) : ¬ v.ownBlock = some bm := by
  intro hv
  rcases h.2 with ⟨rfl, _⟩ | ⟨g, cap, cur, rfl, hb, hg, _⟩
  · simp [Value.ownBlock] at hv
  · simp [Value.ownBlock] at hv
    subst hv
    rw [hM] at hg
    simp at hg
    exact hne hg.2.symm

theorem grownBy_set (w : World) (p : Addr) (u : Value) : w.grownBy (w.setCell p u) (some p.block) :=
  ⟨rfl, rfl, rfl, by simp [World.setCell], fun k _ hne => Below.heap_setCell _ _ _ _ (fun e => hne (by rw [e]))⟩

theorem own_set {w : World} {base e size n : Nat} {v : Value} {xs : List Value} {p : Addr} (h : w.ownsRow base e size v n xs) (hne : ¬ v.ownBlock = some p.block) (u : Value) : (w.setCell p u).ownsRow base e size v n xs :=
  h.kept (grownBy_set w p u) (.inr hne)

set_option maxRecDepth 100000 in
set_option maxHeartbeats 1000000 in
theorem do_const (bm : Nat) (rs : List Int) (snap wrt told rds : Value) (a b c : Nat) (num : Int) (w : World) (ha : a < 8) (hb : b < 8) (hc : c < 8) (hrs : rs.length = 8)
    (hM : w.heap[bm]? = some (.cells (mcells rs snap wrt told rds) 82 (0, 0))) :
    Calls Try.prog 40 #[.pointer (some ⟨bm, 0, none⟩), .agg #[.int .u8 1, .int .u8 a, .int .u8 b, .int .u8 c, .int .i64 num]] w fun e w' => e = .returned (.tuple #[]) ∧
      w'.heap[bm]? = some (.cells (mcells (rs.set a num) snap wrt told rds) 82 (0, 0)) ∧ Keeps (· = bm) w w' := by
  have h1 := mreg hM a (by omega)
  have h2 := mreg hM b (by omega)
  have h3 := mreg hM c (by omega)
  have hfz := mfree hM a
  have hlt : bm < w.heap.size := (Array.getElem?_eq_some_iff.1 hM).1
  generalize rs.getD a 0 = ra at *
  generalize rs.getD b 0 = rb at *
  generalize rs.getD c 0 = rc at *
  have HM : Hid (w.heap[bm]? = some (.cells (mcells rs snap wrt told rds) 82 (0, 0))) := hM
  clear hM
  have ha' : (a : Int) < 8 := by omega
  have hb' : (b : Int) < 8 := by omega
  have hc' : (c : Int) < 8 := by omega
  go_enter Try.func40, Try.ntmps40
  go_wp2
  go_quiet (fail)
  go_wp2
  go_region
  go_wp2
  go_end0
  have hk : Keeps (fun _ => False) w ((w.alloc (.cells #[.int .u8 1, .int .u8 a, .int .u8 b, .int .u8 c, .int .i64 num] 92)).drewN (nq + 1)) := ((Keeps.refl _ w).alloc _).drewN _
  exact ⟨rfl, m_set (m_later HM.out hk (fun h => h)) a (by omega) num, Keeps.setCell (S := (· = bm)) (p := ⟨bm, a, none⟩) (hk.mono (fun _ _ h => h.elim)) (.inr rfl) _⟩

set_option maxRecDepth 100000 in
set_option maxHeartbeats 1000000 in
theorem do_emit (base bm : Nat) (rs : List Int) (snap wrt told rds : Value) (n : Nat) (xs : List Value) (a b c : Nat) (num : Int) (w : World) (ha : a < 8) (hb : b < 8) (hc : c < 8) (hrs : rs.length = 8) (hn : n ≤ 256)
    (hM : w.heap[bm]? = some (.cells (mcells rs snap wrt told rds) 82 (0, 0))) (hown : w.ownsRow base 3 1 told n xs) (hbase : base ≤ w.heap.size) :
    Calls Try.prog 40 #[.pointer (some ⟨bm, 0, none⟩), .agg #[.int .u8 10, .int .u8 a, .int .u8 b, .int .u8 c, .int .i64 num]] w fun e w' => e = .returned (.tuple #[]) ∧
      ∃ told', w'.heap[bm]? = some (.cells (mcells rs snap wrt told' rds) 82 (0, 0)) ∧ w'.ownsRow base 3 1 told' (n + 1) (xs ++ [.int .i64 (rs.getD a 0)]) ∧ (∀ k, told'.ownBlock = some k → told.ownBlock = some k ∨ w.heap.size ≤ k) ∧ Keeps (fun k => k = bm ∨ told.ownBlock = some k) w w' := by
  obtain ⟨i0, hi, hz0, hz1, hz2⟩ := info_parts Try.info3
  have h1 := mreg hM a (by omega)
  have h2 := mreg hM b (by omega)
  have h3 := mreg hM c (by omega)
  have h4 := mtold hM hrs
  have hfz := mfree hM 10
  have hlt : bm < w.heap.size := (Array.getElem?_eq_some_iff.1 hM).1
  generalize rs.getD a 0 = ra at *
  generalize rs.getD b 0 = rb at *
  generalize rs.getD c 0 = rc at *
  have HM : Hid (w.heap[bm]? = some (.cells (mcells rs snap wrt told rds) 82 (0, 0))) := hM
  clear hM
  obtain ⟨ao, cap, rfl⟩ := own_form hown
  have ha' : (a : Int) < 8 := by omega
  have hb' : (b : Int) < 8 := by omega
  have hc' : (c : Int) < 8 := by omega
  go_enter Try.func40, Try.ntmps40
  go_wp2
  go_quiet (fail)
  go_wp2_with (at_builtin; refine wpList_append_lies _ rfl _ _ 37 rfl base 3 i0 _ 1 8 Try.underlying37 hi hz0 hz1 hz2 rfl (by decide) _ _ _ rfl (own_drewN ((hown.alloc _).alloc _) _) ⟨w.heap.size + 1, 0, none⟩ 1 1 [.int .i64 ra] rfl rfl ?c1 ?c2 (by decide) ?c3 ?c4 ?c5 (w.heap.size + 2) ?c6 ?_)
  case c1 =>
    have hnn := news_new ((w.alloc (.cells #[.int .u8 10, .int .u8 a, .int .u8 b, .int .u8 c, .int .i64 num] 92)).drewN nq) [.int .i64 ra] 3
    have e : ((w.alloc (.cells #[.int .u8 10, .int .u8 a, .int .u8 b, .int .u8 c, .int .i64 num] 92)).drewN nq).heap.size = w.heap.size + 1 := by simp
    rw [e] at hnn
    exact hnn
  case c2 => first | rfl | (intro u hu; simp at hu; subst hu; rfl)
  case c3 => unfold maxLen; omega
  case c4 => omega
  case c5 => simp; omega
  case c6 => simp
  · intro g' cap' w2 hown' hgrow hnew _
    have hk1 : Keeps (fun _ => False) w (((w.alloc (.cells #[.int .u8 10, .int .u8 a, .int .u8 b, .int .u8 c, .int .i64 num] 92)).drewN nq).alloc (.cells #[.int .i64 ra] 3)) := (((Keeps.refl _ w).alloc _).drewN _).alloc _
    have hne := own_ne hown HM.out (by decide)
    have hk2 : Keeps (fun k => (Value.slice ao n cap).ownBlock = some k) w w2 := (hk1.mono (fun _ _ h => h.elim)).grown hgrow (fun k e => .inr e)
    have hM2 := m_later HM.out hk2 hne
    have HM2 : Hid (w2.heap[bm]? = some (.cells (mcells rs snap wrt (.slice ao n cap) rds) 82 (0, 0))) := hM2
    have HK2 : Hid (Keeps (fun k => (Value.slice ao n cap).ownBlock = some k) w w2) := hk2
    have HN : Hid ((Value.slice ao n cap).ownBlock = some g' ∨ g' = w.heap.size + 2) := hnew
    have g4 := mtold hM2 hrs
    have gz := mfree hM2 10
    have HO : Hid (w2.ownsRow base 3 1 (.slice (some ⟨g', 0, none⟩) (n + 1) cap') (n + 1) (xs ++ [.int .i64 ra])) := hown'
    clear hgrow hown' hk1 hk2 hM2 h1 h2 h3 h4 hfz hne hown hnew
    go_wp2
    go_end0
    refine ⟨rfl, _, m_tell HM2.out hrs _, own_set HO.out (own_ne HO.out HM2.out (by decide)) _, ?_, Keeps.setCell (S := fun k => k = bm ∨ (Value.slice ao n cap).ownBlock = some k) (p := ⟨bm, 10, none⟩) (HK2.out.mono (fun _ _ h => .inr h)) (.inr (.inl rfl)) _⟩
    intro k hk
    have e : g' = k := by simpa [Value.ownBlock] using hk
    subst e
    exact HN.out.imp id (fun e => by omega)

end Go.Proofs.Ytedbdejhpjkofaa
