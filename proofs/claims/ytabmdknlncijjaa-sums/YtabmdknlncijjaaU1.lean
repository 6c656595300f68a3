import Derived.Test.YtabmdknlncijjaaV5
import Derived.Test.YtabmdknlncijjaaPlain2
namespace Go.Proofs.Ytabmdknlncijjaa
open Go.RowKit Go.Maps
set_option linter.unusedVariables false
set_option linter.unusedSimpArgs false

abbrev DU := DataW Unit
/-- how the elements of a map[int]cell read -/
def RL : List Value → Option (DU × List MemPlace)
  | [.int .i64 x, .bool b] => if (Lit.int .i64 x).wf = true then some (.agg [.lit (.int .i64 x), .lit (.bool b)], []) else none
  | _ => none
def RC : Value → Option (DU × List MemPlace)
  | .agg a => RL a.toList
  | _ => none
/-- the map in block b is D: of numbers; of cells -/
def ownI (w : World) (b n : Nat) (D : DU) : Prop := w.ownsMap Try.prog 3 (plainElem Try.prog 3) b n D
def ownC (w : World) (b n : Nat) (D : DU) : Prop := w.ownsMap Try.prog 3 RC b n D

theorem RC_mk {x : Int} (h : (Lit.int .i64 x).wf = true) (b : Bool) : RC (.agg #[.int .i64 x, .bool b]) = some (.agg [.lit (.int .i64 x), .lit (.bool b)], []) := by
  simp [RC, RL, h]
theorem RL_inv {l : List Value} {y : DU × List MemPlace} (h : RL l = some y) : ∃ x b, l = [.int .i64 x, .bool b] ∧ y = (.agg [.lit (.int .i64 x), .lit (.bool b)], []) ∧ (Lit.int .i64 x).wf = true := by
  unfold RL at h
  split at h
  · rename_i x b
    split at h
    · rename_i hw
      cases h
      exact ⟨x, b, rfl, rfl, hw⟩
    · cases h
  · cases h
theorem RC_inv {v : Value} {y : DU × List MemPlace} (h : RC v = some y) : ∃ x b, v = .agg #[.int .i64 x, .bool b] ∧ y = (.agg [.lit (.int .i64 x), .lit (.bool b)], []) ∧ (Lit.int .i64 x).wf = true := by
  unfold RC at h
  split at h
  · rename_i a
    obtain ⟨x, b, h1, h2, h3⟩ := RL_inv h
    refine ⟨x, b, ?_, h2, h3⟩
    congr 1
    apply Array.ext'
    exact h1
  · cases h

def kL (k : Int) : Lit := .int .i64 k
def wf (k : Int) : Prop := (Lit.int .i64 k).wf = true

/-- the map D holds what f says -/
def VI (D : DU) (f : Int → Option Int) : Prop := ∀ k, wf k → ∀ z, D.atKey (kL k) z = (f k).elim z (fun v => .lit (.int .i64 v))
/-- what a cell reads as -/
def cD (c : Option Int) : DU := .agg [.lit (.int .i64 (c.getD 0)), .lit (.bool c.isSome)]
def VC (D : DU) (f : Int → Option (Option Int)) : Prop := ∀ k, wf k → ∀ z, D.atKey (kL k) z = (f k).elim z cD

theorem VI_has {D : DU} {f : Int → Option Int} (h : VI D f) {k : Int} (hk : wf k) : Maps.has D (kL k) = (f k).isSome := by
  cases hf : f k with
  | none => exact has_false_of_atKey (fun z => by rw [h k hk z, hf]; rfl)
  | some v => exact has_true_of_atKey (y := .lit (.int .i64 v)) (fun z => by rw [h k hk z, hf]; rfl)
theorem VC_has {D : DU} {f : Int → Option (Option Int)} (h : VC D f) {k : Int} (hk : wf k) : Maps.has D (kL k) = (f k).isSome := by
  cases hf : f k with
  | none => exact has_false_of_atKey (fun z => by rw [h k hk z, hf]; rfl)
  | some v => exact has_true_of_atKey (y := cD v) (fun z => by rw [h k hk z, hf]; rfl)

theorem kL_key (k : Int) : WideAt.IsKeyLit (kL k) := by unfold kL; trivial
theorem kL_ne {a b : Int} (h : a ≠ b) : kL a ≠ kL b := fun e => h (by unfold kL at e; injection e)

theorem VI_put {D : DU} {f : Int → Option Int} (h : VI D f) (hD : IsMap D) (k v : Int) (hk : wf k) : VI (D.put (kL k) (.lit (.int .i64 v))) (Hd.upd f k (some v)) := by
  intro x hx z
  unfold Hd.upd
  by_cases e : x = k
  · subst e
    rw [if_pos rfl, atKey_put_same hD (kL_key _)]
    rfl
  · rw [if_neg e, atKey_put_other (kL_ne e), h x hx z]
theorem VI_del {D : DU} {f : Int → Option Int} (h : VI D f) (k : Int) : VI (D.del (kL k)) (Hd.upd f k none) := by
  intro x hx z
  unfold Hd.upd
  by_cases e : x = k
  · subst e
    rw [if_pos rfl, atKey_del_same]
    rfl
  · rw [if_neg e, atKey_del_other (kL_ne e), h x hx z]
theorem VC_put {D : DU} {f : Int → Option (Option Int)} (h : VC D f) (hD : IsMap D) (k : Int) (c : Option Int) : VC (D.put (kL k) (cD c)) (Hd.upd f k (some c)) := by
  intro x hx z
  unfold Hd.upd
  by_cases e : x = k
  · subst e
    rw [if_pos rfl, atKey_put_same hD (kL_key _)]
    rfl
  · rw [if_neg e, atKey_put_other (kL_ne e), h x hx z]
theorem VI_empty : VI (.map []) (fun _ => none) := fun k hk z => rfl
theorem VC_empty : VC (.map []) (fun _ => none) := fun k hk z => rfl

theorem zero88 (w : World) : (zeroValue 88).run Try.prog w = .ok (.agg #[.int .i64 0, .bool false]) w := by kernel_rfl
theorem zero3 (w : World) : (zeroValue 3).run Try.prog w = .ok (.int .i64 0) w := by kernel_rfl

theorem wf0 : (Lit.int .i64 0).wf = true := by decide

/-- 'c, ok := m[k]' at a map of cells -/
theorem wpList_look_cell (w : World) {ops : Array Oper} {rest : List Oper} {o : Oper} {a : Act} {Q : Exit → Act → World → Prop} (hg : o.guard = none) (m x : Operand) (hop : o.op = Op.lookup 61 m x true) (b n : Nat) (D : DU) (f : Int → Option (Option Int)) (hV : VC D f)
    (hm : a.eval m = .map (some b)) (hown : ownC w b n D) (k : Int) (hk : wf k) (hx : a.eval x = .int .i64 k)
    (hK : wpList Try.prog ops Q rest (a.put o.dst (.tuple #[.agg #[.int .i64 (((f k).getD none).getD 0), .bool ((f k).getD none).isSome], .bool (f k).isSome])) w) : wpList Try.prog ops Q (o :: rest) a w := by
  refine wpList_lookup_own_ok w hg m x 61 hop 3 88 law3 Try.underlying61 RC (zero88 w) _ [] (RC_mk wf0 false) b n D hm hown (.int .i64 k) (kL k) hx (keyOf_int_mk Try.underlying3 hk) ?_
  intro v ps hv
  obtain ⟨x', b', rfl, hy, _⟩ := RC_inv hv
  have h1 := congrArg Prod.fst hy
  simp only at h1
  rw [hV k hk] at h1
  rw [VC_has hV hk]
  cases hf : f k with
  | none =>
    rw [hf] at h1 hK
    simp only [Option.elim] at h1
    injection h1 with h1
    injection h1 with h2 h3
    injection h3 with h3 _
    injection h2 with h2
    injection h2 with _ h2
    injection h3 with h3
    injection h3 with h3
    subst h2 h3
    exact hK
  | some c =>
    rw [hf] at h1 hK
    simp only [Option.elim, cD] at h1
    injection h1 with h1
    injection h1 with h2 h3
    injection h3 with h3 _
    injection h2 with h2
    injection h2 with _ h2
    injection h3 with h3
    injection h3 with h3
    subst h2 h3
    exact hK

/-- 'v, ok := m[k]' at a map of numbers -/
theorem wpList_look_int (w : World) {ops : Array Oper} {rest : List Oper} {o : Oper} {a : Act} {Q : Exit → Act → World → Prop} (hg : o.guard = none) (m x : Operand) (hop : o.op = Op.lookup 58 m x true) (b n : Nat) (D : DU) (f : Int → Option Int) (hV : VI D f)
    (hm : a.eval m = .map (some b)) (hown : ownI w b n D) (k : Int) (hk : wf k) (hx : a.eval x = .int .i64 k)
    (hK : wpList Try.prog ops Q rest (a.put o.dst (.tuple #[.int .i64 ((f k).getD 0), .bool (f k).isSome])) w) : wpList Try.prog ops Q (o :: rest) a w := by
  refine wpList_lookup_own_ok_int w hg m x 58 hop 3 3 .i64 law3 Try.underlying58 Try.underlying3 (zero3 w) b n D hm hown (.int .i64 k) (kL k) hx (keyOf_int_mk Try.underlying3 hk) ?_
  intro c hat _
  rw [hV k hk] at hat
  rw [VI_has hV hk]
  cases hf : f k with
  | none =>
    rw [hf] at hat hK
    simp only [Option.elim] at hat
    injection hat with hat
    injection hat with _ hat
    subst hat
    exact hK
  | some v =>
    rw [hf] at hat hK
    simp only [Option.elim] at hat
    injection hat with hat
    injection hat with _ hat
    subst hat
    exact hK

set_option maxRecDepth 100000 in
set_option maxHeartbeats 1000000 in
theorem look_any (bm bs bw nS nW : Nat) (rs : List Int) (tv : Value) (DS DW : DU) (S : Int → Option Int) (Wf : Int → Option (Option Int)) (k : Int) (w : World) (hk : wf k) (hrs : rs.length = 8)
    (hM : w.heap[bm]? = some (.cells (mcells rs (.map (some bs)) (.map (some bw)) tv) 64 (0, 0))) (hS : ownI w bs nS DS) (vS : VI DS S) (hW : ownC w bw nW DW) (vW : VC DW Wf) :
    Calls Try.prog 41 #[.pointer (some ⟨bm, 0, none⟩), .int .i64 k] w fun e w' => e = .returned (.agg #[.int .i64 ((Hd.lookS S Wf k).getD 0), .bool (Hd.lookS S Wf k).isSome]) ∧ Below w.heap.size w w' := by
  have c8 := msnap hM hrs
  have c9 := mwrt hM hrs
  have hlt : bm < w.heap.size := (Array.getElem?_eq_some_iff.1 hM).1
  clear hM
  unfold Hd.lookS
  cases hWk : Wf k with
  | some c =>
    go_enter Try.func41, Try.ntmps41
    go_wp2_with (at_lookup; refine wpList_look_cell _ rfl _ _ rfl bw nW DW Wf vW rfl (hW.alloc _) k hk rfl ?_; rw [hWk]; simp only [Option.getD_some, Option.isSome_some])
    exact bodyPost_ret (v := .agg #[.int .i64 (c.getD 0), .bool c.isSome]) (by simp [results, Try.results41, go_sem]) rfl ⟨rfl, ((Below.refl _ w).alloc (Nat.le_refl _) _).alloc (by simp) _⟩
  | none =>
    cases hSk : S k with
    | some v =>
      go_enter Try.func41, Try.ntmps41
      go_wp2_with (first
        | (at_lookup; refine wpList_look_cell _ rfl _ _ rfl bw nW DW Wf vW rfl (hW.alloc _) k hk rfl ?_; rw [hWk]; simp only [Option.getD_none, Option.isSome_none])
        | (at_lookup; refine wpList_look_int _ rfl _ _ rfl bs nS DS S vS rfl ((hS.alloc _).alloc _) k hk rfl ?_; rw [hSk]; simp only [Option.getD_some, Option.isSome_some]))
      exact bodyPost_ret (v := .agg #[.int .i64 v, .bool true]) (by simp [results, Try.results41, go_sem]) rfl ⟨rfl, ((Below.refl _ w).alloc (Nat.le_refl _) _).alloc (by simp) _⟩
    | none =>
      go_enter Try.func41, Try.ntmps41
      go_wp2_with (first
        | (at_lookup; refine wpList_look_cell _ rfl _ _ rfl bw nW DW Wf vW rfl (hW.alloc _) k hk rfl ?_; rw [hWk]; simp only [Option.getD_none, Option.isSome_none])
        | (at_lookup; refine wpList_look_int _ rfl _ _ rfl bs nS DS S vS rfl ((hS.alloc _).alloc _) k hk rfl ?_; rw [hSk]; simp only [Option.getD_none, Option.isSome_none]))
      exact bodyPost_ret (v := .agg #[.int .i64 0, .bool false]) (by simp [results, Try.results41, go_sem]) rfl ⟨rfl, ((Below.refl _ w).alloc (Nat.le_refl _) _).alloc (by simp) _⟩

end Go.Proofs.Ytabmdknlncijjaa
