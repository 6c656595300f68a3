import Derived.Test.YtedbdejhpjkofaaV3
import Derived.Test.YtedbdejhpjkofaaPlain2
namespace Go.Proofs.Ytedbdejhpjkofaa
open Go.RowKit Go.Maps
set_option linter.unusedVariables false
set_option linter.unusedSimpArgs false

abbrev DU := DataW Unit
/-- how the elements of a map[int]cell read -/
def RL : List Value → Option (DU × List MemPlace)
  | [.int .i64 x, .bool b] => if (Lit.int .i64 x).wf = true then some (.agg [.lit (.int .i64 x), .lit (.bool b)], []) else none
  | _ => none
def RC : Value → Option (DU × List MemPlace)
  | .agg a => RL a.toList
  | _ => none
/-- the map in block b is D: of numbers; of cells -/
def ownI (w : World) (b n : Nat) (D : DU) : Prop := w.ownsMap Try.prog 3 (plainElem Try.prog 3) b n D
def ownC (w : World) (b n : Nat) (D : DU) : Prop := w.ownsMap Try.prog 3 RC b n D

theorem RC_mk {x : Int} (h : (Lit.int .i64 x).wf = true) (b : Bool) : RC (.agg #[.int .i64 x, .bool b]) = some (.agg [.lit (.int .i64 x), .lit (.bool b)], []) := by
  simp [RC, RL, h]
theorem RL_inv {l : List Value} {y : DU × List MemPlace} (h : RL l = some y) : ∃ x b, l = [.int .i64 x, .bool b] ∧ y = (.agg [.lit (.int .i64 x), .lit (.bool b)], []) ∧ (Lit.int .i64 x).wf = true := by
  unfold RL at h
  split at h
  · rename_i x b
    split at h
    · rename_i hw
      cases h
      exact ⟨x, b, rfl, rfl, hw⟩
    · cases h
  · cases h
theorem RC_inv {v : Value} {y : DU × List MemPlace} (h : RC v = some y) : ∃ x b, v = .agg #[.int .i64 x, .bool b] ∧ y = (.agg [.lit (.int .i64 x), .lit (.bool b)], []) ∧ (Lit.int .i64 x).wf = true := by
  unfold RC at h
  split at h
  · rename_i a
    obtain ⟨x, b, h1, h2, h3⟩ := RL_inv h
    refine ⟨x, b, ?_, h2, h3⟩
    congr 1
    apply Array.ext'
    exact h1
  · cases h

def kL (k : Int) : Lit := .int .i64 k
def wf (k : Int) : Prop := (Lit.int .i64 k).wf = true

/-- the map D holds what f says -/
def VI (D : DU) (f : Int → Option Int) : Prop := ∀ k, wf k → ∀ z, D.atKey (kL k) z = (f k).elim z (fun v => .lit (.int .i64 v))
/-- what a cell reads as -/
def cD (c : Option Int) : DU := .agg [.lit (.int .i64 (c.getD 0)), .lit (.bool c.isSome)]
def VC (D : DU) (f : Int → Option (Option Int)) : Prop := ∀ k, wf k → ∀ z, D.atKey (kL k) z = (f k).elim z cD

theorem VI_has {D : DU} {f : Int → Option Int} (h : VI D f) {k : Int} (hk : wf k) : Maps.has D (kL k) = (f k).isSome := by
  cases hf : f k with
  | none => exact has_false_of_atKey (fun z => by rw [h k hk z, hf]; rfl)
  | some v => exact has_true_of_atKey (y := .lit (.int .i64 v)) (fun z => by rw [h k hk z, hf]; rfl)
theorem VC_has {D : DU} {f : Int → Option (Option Int)} (h : VC D f) {k : Int} (hk : wf k) : Maps.has D (kL k) = (f k).isSome := by
  cases hf : f k with
  | none => exact has_false_of_atKey (fun z => by rw [h k hk z, hf]; rfl)
  | some v => exact has_true_of_atKey (y := cD v) (fun z => by rw [h k hk z, hf]; rfl)

theorem kL_key (k : Int) : WideAt.IsKeyLit (kL k) := by unfold kL; trivial
theorem kL_ne {a b : Int} (h : a ≠ b) : kL a ≠ kL b := fun e => h (by unfold kL at e; injection e)

theorem VI_put {D : DU} {f : Int → Option Int} (h : VI D f) (hD : IsMap D) (k v : Int) (hk : wf k) : VI (D.put (kL k) (.lit (.int .i64 v))) (Hd.upd f k (some v)) := by
  intro x hx z
  unfold Hd.upd
  by_cases e : x = k
  · subst e
    rw [if_pos rfl, atKey_put_same hD (kL_key _)]
    rfl
  · rw [if_neg e, atKey_put_other (kL_ne e), h x hx z]
theorem VI_del {D : DU} {f : Int → Option Int} (h : VI D f) (k : Int) : VI (D.del (kL k)) (Hd.upd f k none) := by
  intro x hx z
  unfold Hd.upd
  by_cases e : x = k
  · subst e
    rw [if_pos rfl, atKey_del_same]
    rfl
  · rw [if_neg e, atKey_del_other (kL_ne e), h x hx z]
theorem VC_put {D : DU} {f : Int → Option (Option Int)} (h : VC D f) (hD : IsMap D) (k : Int) (c : Option Int) : VC (D.put (kL k) (cD c)) (Hd.upd f k (some c)) := by
  intro x hx z
  unfold Hd.upd
  by_cases e : x = k
  · subst e
    rw [if_pos rfl, atKey_put_same hD (kL_key _)]
    rfl
  · rw [if_neg e, atKey_put_other (kL_ne e), h x hx z]
theorem VI_empty : VI (.map []) (fun _ => none) := fun k hk z => rfl
theorem VC_empty : VC (.map []) (fun _ => none) := fun k hk z => rfl

theorem zero88 (w : World) : (zeroValue 85).run Try.prog w = .ok (.agg #[.int .i64 0, .bool false]) w := by kernel_rfl
theorem zero3 (w : World) : (zeroValue 3).run Try.prog w = .ok (.int .i64 0) w := by kernel_rfl

theorem wf0 : (Lit.int .i64 0).wf = true := by decide

/-- 'c, ok := m[k]' at a map of cells -/
theorem wpList_look_cell (w : World) {ops : Array Oper} {rest : List Oper} {o : Oper} {a : Act} {Q : Exit → Act → World → Prop} (hg : o.guard = none) (m x : Operand) (hop : o.op = Op.lookup 59 m x true) (b n : Nat) (D : DU) (f : Int → Option (Option Int)) (hV : VC D f)
    (hm : a.eval m = .map (some b)) (hown : ownC w b n D) (k : Int) (hk : wf k) (hx : a.eval x = .int .i64 k)
    (hK : wpList Try.prog ops Q rest (a.put o.dst (.tuple #[.agg #[.int .i64 (((f k).getD none).getD 0), .bool ((f k).getD none).isSome], .bool (f k).isSome])) w) : wpList Try.prog ops Q (o :: rest) a w := by
  refine wpList_lookup_own_ok w hg m x 59 hop 3 85 law3 Try.underlying59 RC (zero88 w) _ [] (RC_mk wf0 false) b n D hm hown (.int .i64 k) (kL k) hx (keyOf_int_mk Try.underlying3 hk) ?_
  intro v ps hv
  obtain ⟨x', b', rfl, hy, _⟩ := RC_inv hv
  have h1 := congrArg Prod.fst hy
  simp only at h1
  rw [hV k hk] at h1
  rw [VC_has hV hk]
  cases hf : f k with
  | none =>
    rw [hf] at h1 hK
    simp only [Option.elim] at h1
    injection h1 with h1
    injection h1 with h2 h3
    injection h3 with h3 _
    injection h2 with h2
    injection h2 with _ h2
    injection h3 with h3
    injection h3 with h3
    subst h2 h3
    exact hK
  | some c =>
    rw [hf] at h1 hK
    simp only [Option.elim, cD] at h1
    injection h1 with h1
    injection h1 with h2 h3
    injection h3 with h3 _
    injection h2 with h2
    injection h2 with _ h2
    injection h3 with h3
    injection h3 with h3
    subst h2 h3
    exact hK

/-- 'v, ok := m[k]' at a map of numbers -/
theorem wpList_look_int (w : World) {ops : Array Oper} {rest : List Oper} {o : Oper} {a : Act} {Q : Exit → Act → World → Prop} (hg : o.guard = none) (m x : Operand) (hop : o.op = Op.lookup 56 m x true) (b n : Nat) (D : DU) (f : Int → Option Int) (hV : VI D f)
    (hm : a.eval m = .map (some b)) (hown : ownI w b n D) (k : Int) (hk : wf k) (hx : a.eval x = .int .i64 k)
    (hK : wpList Try.prog ops Q rest (a.put o.dst (.tuple #[.int .i64 ((f k).getD 0), .bool (f k).isSome])) w) : wpList Try.prog ops Q (o :: rest) a w := by
  refine wpList_lookup_own_ok_int w hg m x 56 hop 3 3 .i64 law3 Try.underlying56 Try.underlying3 (zero3 w) b n D hm hown (.int .i64 k) (kL k) hx (keyOf_int_mk Try.underlying3 hk) ?_
  intro c hat _
  rw [hV k hk] at hat
  rw [VI_has hV hk]
  cases hf : f k with
  | none =>
    rw [hf] at hat hK
    simp only [Option.elim] at hat
    injection hat with hat
    injection hat with _ hat
    subst hat
    exact hK
  | some v =>
    rw [hf] at hat hK
    simp only [Option.elim] at hat
    injection hat with hat
    injection hat with _ hat
    subst hat
    exact hK

theorem ownI_keeps {w w' : World} {S : Nat → Prop} {b n : Nat} {D : DU} (h : ownI w b n D) (hk : Keeps S w w') (hs : ¬ S b) : ownI w' b n D := map_keeps h hk hs
theorem ownC_keeps {w w' : World} {S : Nat → Prop} {b n : Nat} {D : DU} (h : ownC w b n D) (hk : Keeps S w w') (hs : ¬ S b) : ownC w' b n D := map_keeps h hk hs
theorem ownC_mono {w : World} {b n m : Nat} {D : DU} (h : ownC w b n D) (hn : n ≤ m) : ownC w b m D := World.ownsMap.mono h hn

theorem map_ne {H : Type} {w : World} {k b n bm : Nat} {R : Value → Option (DataW H × List MemPlace)} {D : DataW H} {cs : Array Value} {t : Nat} (h : w.ownsMap Try.prog k R b n D) (hM : w.heap[bm]? = some (.cells cs t (0, 0))) : b ≠ bm := by
  intro e
  subst e
  obtain ⟨es, clock, hb, _⟩ := h
  rw [hM] at hb
  cases hb

theorem map_not_row {H : Type} {w : World} {k b n : Nat} {R : Value → Option (DataW H × List MemPlace)} {D : DataW H} {base e size m : Nat} {v : Value} {xs : List Value} (h : w.ownsMap Try.prog k R b n D) (hr : w.ownsRow base e size v m xs) : ¬ v.ownBlock = some b := by
  intro hv
  rcases hr.2 with ⟨rfl, _⟩ | ⟨g, cap, cur, rfl, hb, hg, _⟩
  · simp [Value.ownBlock] at hv
  · simp [Value.ownBlock] at hv
    subst hv
    exact map_ne h hg rfl

theorem res_both {w : World} {B t : Nat} {x y : Value} (h : w.heap[B]? = some (.cells #[x, y] t (0, 0))) (u v : Value) :
    ((w.setCell ⟨B, 0, none⟩ u).setCell ⟨B, 1, none⟩ v).cell? ⟨B, 0, none⟩ = some u ∧ ((w.setCell ⟨B, 0, none⟩ u).setCell ⟨B, 1, none⟩ v).cell? ⟨B, 1, none⟩ = some v := by
  have h1 := heap_setCell_same w B 0 _ t u h
  have h2 := heap_setCell_same _ B 1 _ t v h1
  refine ⟨?_, ?_⟩
  · rw [cell_of_row _ B 0 _ t (0, 0) h2]; rfl
  · rw [cell_of_row _ B 1 _ t (0, 0) h2]; rfl

set_option maxRecDepth 100000 in
set_option maxHeartbeats 2000000 in
/-- a key is read: it stands behind the keys that were read, and what was written hides the snapshot -/
theorem read_any (base bm bs bw nS nW : Nat) (rs : List Int) (tv rv : Value) (n : Nat) (xs : List Value) (DS DW : DU) (S : Int → Option Int) (Wf : Int → Option (Option Int)) (k : Int) (w : World) (hk : wf k) (hrs : rs.length = 8) (hn : n ≤ 256)
    (hM : w.heap[bm]? = some (.cells (mcells rs (.map (some bs)) (.map (some bw)) tv rv) 82 (0, 0))) (hown : w.ownsRow base 3 1 rv n xs) (hbase : base ≤ w.heap.size) (hS : ownI w bs nS DS) (vS : VI DS S) (hW : ownC w bw nW DW) (vW : VC DW Wf) :
    Calls Try.prog 46 #[.pointer (some ⟨bm, 0, none⟩), .int .i64 k] w fun e w' => e = .returned (.agg #[.int .i64 ((Hd.lookS S Wf k).getD 0), .bool (Hd.lookS S Wf k).isSome]) ∧
      ∃ rv', w'.heap[bm]? = some (.cells (mcells rs (.map (some bs)) (.map (some bw)) tv rv') 82 (0, 0)) ∧ w'.ownsRow base 3 1 rv' (n + 1) (xs ++ [.int .i64 k]) ∧ (∀ j, rv'.ownBlock = some j → rv.ownBlock = some j ∨ w.heap.size ≤ j) ∧ Keeps (fun j => j = bm ∨ rv.ownBlock = some j) w w' := by
  obtain ⟨i0, hi, hz0, hz1, hz2⟩ := info_parts Try.info3
  have c11 := mrds hM hrs
  have hfz := mfree hM 11
  have hlt : bm < w.heap.size := (Array.getElem?_eq_some_iff.1 hM).1
  have HM : Hid (w.heap[bm]? = some (.cells (mcells rs (.map (some bs)) (.map (some bw)) tv rv) 82 (0, 0))) := hM
  have HS : Hid (ownI w bs nS DS) := hS
  have HW : Hid (ownC w bw nW DW) := hW
  clear hM hS hW
  generalize hlk : Hd.lookS S Wf k = lk
  obtain ⟨ao, cap, rfl⟩ := own_form hown
  go_enter Try.func46, Try.ntmps46
  go_wp2_with (at_builtin; refine wpList_append_lies _ rfl _ _ 37 rfl base 3 i0 _ 1 8 Try.underlying37 hi hz0 hz1 hz2 rfl (by decide) _ _ _ rfl ((hown.alloc _).alloc _) ⟨w.heap.size + 1, 0, none⟩ 1 1 [.int .i64 k] rfl rfl ?c1 ?c2 (by decide) ?c3 ?c4 ?c5 (w.heap.size + 2) ?c6 ?_)
  case c1 =>
    have hnn := news_new (w.alloc (.cells #[.int .i64 0, .bool false] 85)) [.int .i64 k] 3
    have e : (w.alloc (.cells #[.int .i64 0, .bool false] 85)).heap.size = w.heap.size + 1 := by simp
    rw [e] at hnn
    exact hnn
  case c2 => first | rfl | (intro u hu; simp at hu; subst hu; rfl)
  case c3 => unfold maxLen; omega
  case c4 => omega
  case c5 => simp; omega
  case c6 => simp
  intro g' cap' w2 hown' hgrow hnew _
  have hk1 : Keeps (fun _ => False) w ((w.alloc (.cells #[.int .i64 0, .bool false] 85)).alloc (.cells #[.int .i64 k] 3)) := ((Keeps.refl _ w).alloc _).alloc _
  have hne := own_ne hown HM.out (by decide)
  have hk2 : Keeps (fun j => (Value.slice ao n cap).ownBlock = some j) w w2 := (hk1.mono (fun _ _ h => h.elim)).grown hgrow (fun k e => .inr e)
  have hM2 := m_later HM.out hk2 hne
  have hres2 : w2.heap[w.heap.size]? = some (.cells #[.int .i64 0, .bool false] 85 (0, 0)) := by
    rw [hgrow.block w.heap.size (by simp; omega) (fun e => by have := (hown.lt _ e.symm).2; omega)]
    rw [Below.heap_alloc _ _ _ (by simp)]
    exact heap_alloc_new w _
  have hwM : (w2.setCell ⟨bm, 11, none⟩ (.slice (some ⟨g', 0, none⟩) (n + 1) cap')).heap[bm]? = some (.cells (mcells rs (.map (some bs)) (.map (some bw)) tv (.slice (some ⟨g', 0, none⟩) (n + 1) cap')) 82 (0, 0)) := m_read hM2 hrs _
  have hkF : Keeps (fun j => j = bm ∨ (Value.slice ao n cap).ownBlock = some j) w (w2.setCell ⟨bm, 11, none⟩ (.slice (some ⟨g', 0, none⟩) (n + 1) cap')) := Keeps.setCell (p := ⟨bm, 11, none⟩) (hk2.mono (fun _ _ h => .inr h)) (.inr (.inl rfl)) _
  have hres3 : (w2.setCell ⟨bm, 11, none⟩ (.slice (some ⟨g', 0, none⟩) (n + 1) cap')).heap[w.heap.size]? = some (.cells #[.int .i64 0, .bool false] 85 (0, 0)) := (Below.heap_setCell _ _ _ _ (by show w.heap.size ≠ bm; omega)).trans hres2
  have hO3 : (w2.setCell ⟨bm, 11, none⟩ (.slice (some ⟨g', 0, none⟩) (n + 1) cap')).ownsRow base 3 1 (.slice (some ⟨g', 0, none⟩) (n + 1) cap') (n + 1) (xs ++ [.int .i64 k]) := own_set hown' (own_ne hown' hM2 (by decide)) _
  have hS3 := ownI_keeps HS.out hkF (fun x => x.elim (fun e => map_ne HS.out HM.out e) (map_not_row HS.out hown))
  have hW3 := ownC_keeps HW.out hkF (fun x => x.elim (fun e => map_ne HW.out HM.out e) (map_not_row HW.out hown))
  have g4 := mrds hM2 hrs
  have gz := mfree hM2 11
  have hb2 : bm < w2.heap.size := Nat.lt_of_lt_of_le hlt hk2.size
  have  HN : Hid (∀ j, (Value.slice (some ⟨g', 0, none⟩) (n + 1) cap').ownBlock = some j → (Value.slice ao n cap).ownBlock = some j ∨ w.heap.size ≤ j) := by
    intro j hj
    have e : g' = j := by simpa [Value.ownBlock] using hj
    subst e
    exact hnew.imp id (fun e => by omega)
  have c8 := msnap hM2 hrs
  have c12 := mwrt hM2 hrs
  have r0 : w2.cell? ⟨w.heap.size, 0, none⟩ = some (.int .i64 0) := by rw [cell_of_row _ _ 0 _ 85 (0, 0) hres2]; rfl
  have r1 : w2.cell? ⟨w.heap.size, 1, none⟩ = some (.bool false) := by rw [cell_of_row _ _ 1 _ 85 (0, 0) hres2]; rfl
  have rz0 : w2.frozen? ⟨w.heap.size, 0, none⟩ = false := by simp [World.frozen?, hres2]
  have rz1 : w2.frozen? ⟨w.heap.size, 1, none⟩ = false := by simp [World.frozen?, hres2]
  have hsz2 : w.heap.size < w2.heap.size := (Array.getElem?_eq_some_iff.1 hres2).1
  have fin : Hid (∀ (u v : Value) (o : Obj), ∃ rv', ((((w2.setCell ⟨bm, 11, none⟩ (.slice (some ⟨g', 0, none⟩) (n + 1) cap')).setCell ⟨w.heap.size, 0, none⟩ u).setCell ⟨w.heap.size, 1, none⟩ v).alloc o).heap[bm]? = some (.cells (mcells rs (.map (some bs)) (.map (some bw)) tv rv') 82 (0, 0)) ∧
      ((((w2.setCell ⟨bm, 11, none⟩ (.slice (some ⟨g', 0, none⟩) (n + 1) cap')).setCell ⟨w.heap.size, 0, none⟩ u).setCell ⟨w.heap.size, 1, none⟩ v).alloc o).ownsRow base 3 1 rv' (n + 1) (xs ++ [.int .i64 k]) ∧ (∀ j, rv'.ownBlock = some j → (Value.slice ao n cap).ownBlock = some j ∨ w.heap.size ≤ j) ∧
      Keeps (fun j => j = bm ∨ (Value.slice ao n cap).ownBlock = some j) w ((((w2.setCell ⟨bm, 11, none⟩ (.slice (some ⟨g', 0, none⟩) (n + 1) cap')).setCell ⟨w.heap.size, 0, none⟩ u).setCell ⟨w.heap.size, 1, none⟩ v).alloc o)) := by
    intro u v o
    have hne3 : ¬ (Value.slice (some ⟨g', 0, none⟩) (n + 1) cap').ownBlock = some w.heap.size := by
      intro e
      have e : g' = w.heap.size := by simpa [Value.ownBlock] using e
      rcases hnew with h | h
      · have := (hown.lt _ h).2; omega
      · omega
    refine ⟨.slice (some ⟨g', 0, none⟩) (n + 1) cap', ?_, World.ownsRow.alloc (own_set (p := ⟨w.heap.size, 1, none⟩) (own_set (p := ⟨w.heap.size, 0, none⟩) hO3 hne3 _) hne3 _) _, HN.out, ((hkF.setCell (p := ⟨w.heap.size, 0, none⟩) (.inl (Nat.le_refl _)) _).setCell (p := ⟨w.heap.size, 1, none⟩) (.inl (Nat.le_refl _)) _).alloc _⟩
    rw [Below.heap_alloc _ _ _ (by simp [World.setCell]; omega), Below.heap_setCell _ _ _ _ (by show bm ≠ w.heap.size; omega), Below.heap_setCell _ _ _ _ (by show bm ≠ w.heap.size; omega)]
    exact hwM
  have res : Hid (∀ (u v : Value), (((w2.setCell ⟨bm, 11, none⟩ (.slice (some ⟨g', 0, none⟩) (n + 1) cap')).setCell ⟨w.heap.size, 0, none⟩ u).setCell ⟨w.heap.size, 1, none⟩ v).cell? ⟨w.heap.size, 0, none⟩ = some u ∧ (((w2.setCell ⟨bm, 11, none⟩ (.slice (some ⟨g', 0, none⟩) (n + 1) cap')).setCell ⟨w.heap.size, 0, none⟩ u).setCell ⟨w.heap.size, 1, none⟩ v).cell? ⟨w.heap.size, 1, none⟩ = some v) := fun u v => res_both hres3 u v
  have HS3 : Hid _ := hS3
  have HW3 : Hid _ := hW3
  clear hwM hkF hO3 hS3 hW3 hres2 hres3 hM2 hk2 hk1 hgrow hown' hown hnew hne HM HS HW c11 hfz HN
  unfold Hd.lookS at hlk
  cases hWk : Wf k with
  | some c =>
    rw [hWk] at hlk
    simp only at hlk
    subst hlk
    go_wp2_with (at_lookup; refine wpList_look_cell _ rfl _ _ rfl bw nW DW Wf vW rfl HW3.out k hk rfl ?_; rw [hWk]; simp only [Option.getD_some, Option.isSome_some])
    obtain ⟨q0, q1⟩ := res.out (.int .i64 (c.getD 0)) (.bool c.isSome)
    exact bodyPost_ret (v := .agg #[.int .i64 (c.getD 0), .bool c.isSome]) (by simp [results, Try.results46, go_sem, q0, q1, hsz2]) rfl ⟨rfl, fin.out _ _ _⟩
  | none =>
    rw [hWk] at hlk
    simp only at hlk
    subst hlk
    cases hSk : S k with
    | some v =>
      go_wp2_with (first
        | (at_lookup; refine wpList_look_cell _ rfl _ _ rfl bw nW DW Wf vW rfl HW3.out k hk rfl ?_; rw [hWk]; simp only [Option.getD_none, Option.isSome_none])
        | (at_lookup; refine wpList_look_int _ rfl _ _ rfl bs nS DS S vS rfl (World.ownsMap.alloc HS3.out _) k hk rfl ?_; rw [hSk]; simp only [Option.getD_some, Option.isSome_some]))
      obtain ⟨q0, q1⟩ := res.out (.int .i64 v) (.bool true)
      exact bodyPost_ret (v := .agg #[.int .i64 v, .bool true]) (by simp [results, Try.results46, go_sem, q0, q1, hsz2]) rfl ⟨(by rw [hSk]; rfl), fin.out _ _ _⟩
    | none =>
      go_wp2_with (first
        | (at_lookup; refine wpList_look_cell _ rfl _ _ rfl bw nW DW Wf vW rfl HW3.out k hk rfl ?_; rw [hWk]; simp only [Option.getD_none, Option.isSome_none])
        | (at_lookup; refine wpList_look_int _ rfl _ _ rfl bs nS DS S vS rfl (World.ownsMap.alloc HS3.out _) k hk rfl ?_; rw [hSk]; simp only [Option.getD_none, Option.isSome_none]))
      obtain ⟨q0, q1⟩ := res.out (.int .i64 0) (.bool false)
      exact bodyPost_ret (v := .agg #[.int .i64 0, .bool false]) (by simp [results, Try.results46, go_sem, q0, q1, hsz2]) rfl ⟨(by rw [hSk]; rfl), fin.out _ _ _⟩

end Go.Proofs.Ytedbdejhpjkofaa
