import Derived.Test.YtedbdejhpjkofaaU6
namespace Go.Proofs.Ytedbdejhpjkofaa
open Go.RowKit Go.Maps
set_option linter.unusedVariables false
set_option linter.unusedSimpArgs false

/-- what stands when those that are left are not settled yet -/
def part (S : Int → Option Int) (W : Int → Option (Option Int)) (left : Lit → Bool) (k : Int) : Option Int :=
  match W k with
  | some c => if left (kL k) then S k else c
  | none => S k

structure Cel where
  v : Int
  b : Bool
def mkC (c : Cel) : Value := .agg #[.int .i64 c.v, .bool c.b]
theorem invC : ∀ v y, RC v = some y → ∃ c, v = mkC c := fun v y hv => by
  obtain ⟨x, b, rfl, _⟩ := RC_inv hv
  exact ⟨⟨x, b⟩, rfl⟩

theorem part_start {D : DU} {W : Int → Option (Option Int)} (hV : VC D W) (S : Int → Option Int) : ∀ k, wf k → part S W (Maps.has D) k = S k := by
  intro k hk
  unfold part
  cases hw : W k with
  | none => rfl
  | some c => rw [VC_has hV hk, hw]; rfl

theorem part_end (S : Int → Option Int) (W : Int → Option (Option Int)) (left : Lit → Bool) (h : ∀ kl, left kl = false) : part S W left = Hd.lookS S W := by
  funext k
  unfold part Hd.lookS
  cases W k with
  | none => rfl
  | some c => rw [h]; rfl

theorem kL_same (a b : Int) : (kL a).sameKey (kL b) = decide (a = b) := by
  unfold kL Lit.sameKey
  simp

theorem part_step (S : Int → Option Int) (W : Int → Option (Option Int)) (left : Lit → Bool) (x : Int) (c : Option Int) (hW : W x = some c) : part S W (fun z => left z && !z.sameKey (kL x)) = Hd.upd (part S W left) x c := by
  funext k
  unfold part Hd.upd
  by_cases e : k = x
  · subst e
    rw [hW, if_pos rfl]
    simp [kL_same]
  · rw [if_neg e]
    show (match W k with | some c => if (left (kL k) && !(kL k).sameKey (kL x)) then S k else c | none => S k) = (match W k with | some c => if left (kL k) then S k else c | none => S k)
    cases W k with
    | none => rfl
    | some c' => simp [kL_same, e]

theorem VI_congr {D : DU} {f g : Int → Option Int} (h : VI D f) (e : ∀ k, wf k → f k = g k) : VI D g := fun k hk z => by rw [h k hk z, e k hk]

theorem cell_of {c : Cel} {yd : DU} {yp : List MemPlace} {D : DU} {Wf : Int → Option (Option Int)} {x : Int} (hv : RC (mkC c) = some (yd, yp)) (hat : ∀ z, D.atKey (kL x) z = yd) (vW : VC D Wf) (hx : wf x) : ∃ co, Wf x = some co ∧ c = ⟨co.getD 0, co.isSome⟩ ∧ wf (co.getD 0) := by
  obtain ⟨x1, b1, e1, hy, hwc⟩ := RC_inv hv
  obtain ⟨cv, cb⟩ := c
  simp only [mkC, Value.agg.injEq] at e1
  have e2 : [Value.int .i64 cv, Value.bool cb] = [Value.int .i64 x1, Value.bool b1] := congrArg Array.toList e1
  simp at e2
  obtain ⟨rfl, rfl⟩ := e2
  have e3 : yd = .agg [.lit (.int .i64 cv), .lit (.bool cb)] := congrArg Prod.fst hy
  cases hw : Wf x with
  | none =>
    have h1 := hat .nil
    rw [vW x hx, hw, e3] at h1
    cases h1
  | some co =>
    have h1 := hat .nil
    rw [vW x hx, hw, e3] at h1
    simp only [Option.elim, cD] at h1
    injection h1 with h1
    injection h1 with h2 h3
    injection h3 with h3 _
    injection h2 with h2
    injection h2 with _ h2
    injection h3 with h3
    injection h3 with h3
    refine ⟨co, rfl, ?_, ?_⟩
    · rw [← h2, ← h3]
    · rw [h2]; exact hwc

set_option maxRecDepth 100000 in
set_option maxHeartbeats 1000000 in
theorem settle_any (st : Int) (tv rv : Value) (bs bw nS nW : Nat) (DS DW : DU) (S : Int → Option Int) (Wf : Int → Option (Option Int)) (w : World) (hne : bs ≠ bw) (hS : ownI w bs nS DS) (vS : VI DS S) (hW : ownC w bw nW DW) (vW : VC DW Wf) (hn : nS ≤ 8796093022208) (hnW : nW ≤ 257) :
    Calls Try.prog 24 #[.map (some bs), .agg #[.int .i64 st, tv, rv, .map (some bw)]] w fun e w' => e = .returned (.tuple #[]) ∧ (∃ n D, n ≤ nS + nW ∧ ownI w' bs n D ∧ VI D (Hd.lookS S Wf)) ∧ Keeps (· = bs) w w' := by
  have hlt := hS.lt
  have hlw := hW.lt
  go_enter Try.func24, Try.ntmps24
  go_wp2_with (at_range; refine wpList_range_own _ rfl _ _ rfl 3 85 law3 Try.underlying59 RC bw nW _ rfl (hW.alloc _) ?_; intro w0 hrg0 hg0 hs0)
  go_frame
  have hS0 : ownI w0 bs nS DS := World.ownsMap.kept (hS.alloc _) hg0 (by simp)
  have e0 : (w.alloc (.cells #[.int .i64 st, tv, rv, .map (some bw)] 61)).heap.size = w.heap.size + 1 := by simp
  rw [e0] at hrg0 ⊢
  have hsz0 := World.ownsMap.size_le hW
  go_loopw [4] (fun _ wr => ∃ (left : Lit → Bool) (cnt n : Nat) (D : DU), wr.ranges Try.prog 3 RC bw (w.heap.size + 1) nW DW left cnt ∧ ownI wr bs n D ∧ VI D (part S Wf left) ∧ n + cnt ≤ nS + Maps.size DW ∧ Keeps (· = bs) w wr) (fun _ wr => wr.rangeLeft bw (w.heap.size + 1))
  case atStart => exact ⟨_, _, nS, DS, hrg0, hS0, VI_congr vS (fun k hk => (part_start vW S k hk).symm), Nat.le_refl _, ((Keeps.refl _ w).alloc _).grown hg0 (fun k e => by cases e)⟩
  case round =>
    obtain ⟨left, cnt, n, D, hrg, hD, vD, hcn, hk⟩ := hrel
    go_wp2_with (at_next; refine wpList_next_ranges _ rfl _ rfl 3 law3 RC (Value.int .i64) mkC invK3 invC bw (w.heap.size + 1) nW _ _ _ rfl hrg ?_ ?_)
    · intro _ hl0
      go_wp2
      go_end0
      have e := part_end S Wf left hl0
      rw [e] at vD
      exact ⟨rfl, ⟨n, D, by omega, hD, vD⟩, hk⟩
    · intro x c kl yd yp w2 cnt2 hkey hlk hv hat hrg2 hlt2 hg2 hs2 hen
      obtain ⟨x', ex, rfl, hwx⟩ := Maps.keyOf_int_inv Try.underlying3 hkey
      cases ex
      obtain ⟨co, hco, rfl, hwc⟩ := cell_of hv hat vW hwx
      have hrs2 := hs2
      have hD2 : ownI w2 bs n D := World.ownsMap.kept hD hg2 (by simp; omega)
      have hk2 : Keeps (· = bs) w w2 := hk.grown hg2 (fun k e => .inl (by cases e; omega))
      have hpart := part_step S Wf left x co hco
      have HP : Hid (part S Wf (fun z => left z && !z.sameKey (kL x)) = Hd.upd (part S Wf left) x co) := hpart
      have HV : Hid (VI D (part S Wf left)) := vD
      have HRG : Hid (wr.ranges Try.prog 3 RC bw (w.heap.size + 1) nW DW left cnt) := hrg
      have HRG2 : Hid (w2.ranges Try.prog 3 RC bw (w.heap.size + 1) nW DW (fun z => left z && !z.sameKey (kL x)) cnt2) := hrg2
      have hsz2 := hk2.size
      have hwr : w.heap.size + 1 < w2.heap.size := World.ranges.lt hrg2
      clear hkey hlk hv hat hrg hrg2 hg2 hs2 hD hk hpart vD hrs2
      cases co with
      | none =>
        have hen2 : (Instr.entry (.pointer (some ⟨w.heap.size + 1, 0, none⟩))).run Try.prog w2 = .ok (.tuple #[.int .i64 x, .agg #[.int .i64 0, .bool false]]) w2 := hen
        clear hen
        go_wp2_with (at_delete; refine wpList_delete_own _ rfl _ _ 56 3 rfl 3 law3 Try.underlying56 (plainElem Try.prog 3) bs n D rfl (hD2.alloc _) _ (kL x) rfl (keyOf_int_mk Try.underlying3 hwx) ?_; intro w3 hown3 hturn3; go_frame)
        have hgrow3 := hturn3.grown
        go_roundw
        case rel =>
          refine ⟨_, cnt2, n, _, (World.ranges.alloc HRG2.out _).kept hgrow3 (by simp; omega) (by simp; omega), hown3, ?_, by omega, (hk2.alloc _).grown hgrow3 (fun k e => .inr (by cases e; rfl))⟩
          rw [HP.out]
          exact VI_del HV.out x
        case measure =>
          have hr3 := (World.ranges.alloc HRG2.out (.cells #[.int .i64 0, .bool false] 85)).kept hgrow3 (by simp; omega) (by simp; omega)
          rw [hr3.left_eq, HRG.out.left_eq]
          exact hlt2
      | some v =>
        have hen2 : (Instr.entry (.pointer (some ⟨w.heap.size + 1, 0, none⟩))).run Try.prog w2 = .ok (.tuple #[.int .i64 x, .agg #[.int .i64 v, .bool true]]) w2 := hen
        clear hen
        go_wp2_with (at_mapUpdate; refine wpList_mapUpdate_own _ rfl _ _ _ 56 rfl 3 3 law3 Try.underlying56 (plainElem Try.prog 3) bs n D rfl (hD2.alloc _) (by unfold maxLen; omega) (.int .i64 x) (.int .i64 v) (kL x) rfl rfl (keyOf_int_mk Try.underlying3 hwx) _ [] (plainElem_int Try.underlying3 hwc) ?_; intro w3 hown3 hgrow3; go_frame)
        go_roundw
        case rel =>
          refine ⟨_, cnt2, n + 1, _, (World.ranges.alloc HRG2.out _).kept hgrow3 (by simp; omega) (by simp; omega), hown3, ?_, by omega, (hk2.alloc _).grown hgrow3 (fun k e => .inr (by cases e; rfl))⟩
          rw [HP.out]
          exact VI_put HV.out (World.ownsMap.isMap hD2) x v hwx
        case measure =>
          have hr3 := (World.ranges.alloc HRG2.out (.cells #[.int .i64 v, .bool true] 85)).kept hgrow3 (by simp; omega) (by simp; omega)
          rw [hr3.left_eq, HRG.out.left_eq]
          exact hlt2

end Go.Proofs.Ytedbdejhpjkofaa
