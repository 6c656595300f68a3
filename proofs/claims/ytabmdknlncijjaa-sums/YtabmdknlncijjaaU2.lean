import Derived.Test.YtabmdknlncijjaaU1
namespace Go.Proofs.Ytabmdknlncijjaa
open Go.RowKit Go.Maps
set_option linter.unusedVariables false
set_option linter.unusedSimpArgs false

theorem undrewN {w w' : World} {n : Nat} (h : Below (w.drewN n).heap.size (w.drewN n) w') : Below w.heap.size w w' := ⟨h.os, h.tape, h.output, h.size, h.block⟩
theorem Below.keeps {w w' : World} {S : Nat → Prop} (h : Below w.heap.size w w') : Keeps S w w' := Keeps.of_below h

theorem field0 (x : Int) (y : Bool) (w : World) : (Instr.field 88 (.agg #[.int .i64 x, .bool y]) 0).run Try.prog w = .ok (.int .i64 x) w := by kernel_rfl
theorem field1 (x : Int) (y : Bool) (w : World) : (Instr.field 88 (.agg #[.int .i64 x, .bool y]) 1).run Try.prog w = .ok (.bool y) w := by kernel_rfl

set_option maxRecDepth 100000 in
set_option maxHeartbeats 1000000 in
theorem do_get (bm bs bw nS nW : Nat) (rs : List Int) (tv : Value) (DS DW : DU) (S : Int → Option Int) (Wf : Int → Option (Option Int)) (a b c : Nat) (num : Int) (w : World) (ha : a < 8) (hb : b < 8) (hc : c < 8) (hrs : rs.length = 8) (hwf : wf (rs.getD b 0))
    (hM : w.heap[bm]? = some (.cells (mcells rs (.map (some bs)) (.map (some bw)) tv) 64 (0, 0))) (hS : ownI w bs nS DS) (vS : VI DS S) (hW : ownC w bw nW DW) (vW : VC DW Wf) :
    Calls Try.prog 34 #[.pointer (some ⟨bm, 0, none⟩), .agg #[.int .u8 2, .int .u8 a, .int .u8 b, .int .u8 c, .int .i64 num]] w fun e w' => e = .returned (.tuple #[]) ∧
      w'.heap[bm]? = some (.cells (mcells (rs.set a ((Hd.lookS S Wf (rs.getD b 0)).getD 0)) (.map (some bs)) (.map (some bw)) tv) 64 (0, 0)) ∧ Keeps (· = bm) w w' := by
  have h1 := mreg hM a (by omega)
  have h2 := mreg hM b (by omega)
  have h3 := mreg hM c (by omega)
  have hlt : bm < w.heap.size := (Array.getElem?_eq_some_iff.1 hM).1
  generalize rs.getD a 0 = ra at *
  generalize rs.getD b 0 = rb at *
  generalize rs.getD c 0 = rc at *
  have hk0 : Keeps (fun _ => False) w (w.alloc (.cells #[.int .u8 2, .int .u8 a, .int .u8 b, .int .u8 c, .int .i64 num] 70)) := (Keeps.refl _ w).alloc _
  have HM1 : Hid _ := m_later hM hk0 (fun h => h)
  have HS1 : Hid (ownI (w.alloc (.cells #[.int .u8 2, .int .u8 a, .int .u8 b, .int .u8 c, .int .i64 num] 70)) bs nS DS) := hS.alloc _
  have HW1 : Hid (ownC (w.alloc (.cells #[.int .u8 2, .int .u8 a, .int .u8 b, .int .u8 c, .int .i64 num] 70)) bw nW DW) := hW.alloc _
  have lat : ∀ w5, Below (w.alloc (.cells #[.int .u8 2, .int .u8 a, .int .u8 b, .int .u8 c, .int .i64 num] 70)).heap.size (w.alloc (.cells #[.int .u8 2, .int .u8 a, .int .u8 b, .int .u8 c, .int .i64 num] 70)) w5 →
      w5.cell? ⟨bm, a, none⟩ = some (.int .i64 ra) ∧ w5.frozen? ⟨bm, a, none⟩ = false ∧ Hid (∀ v, (w5.setCell ⟨bm, a, none⟩ (.int .i64 v)).heap[bm]? = some (.cells (mcells (rs.set a v) (.map (some bs)) (.map (some bw)) tv) 64 (0, 0)) ∧ Keeps (· = bm) w (w5.setCell ⟨bm, a, none⟩ (.int .i64 v))) := by
    intro w5 hb5
    have hM5 := m_later HM1.out (Below.keeps (S := fun _ => False) hb5) (fun h => h)
    refine ⟨?_, mfree hM5 a, fun v => ⟨m_set hM5 a (by omega) v, ?_⟩⟩
    · exact ((hb5.cell (p := ⟨bm, a, none⟩) (by simp; omega)).trans (World.cell?_of_block (a := ⟨bm, a, none⟩) (hk0.block bm hlt (fun h => h)))).trans h1
    · exact Keeps.setCell (S := (· = bm)) (p := ⟨bm, a, none⟩) ((hk0.trans (Below.keeps hb5)).mono (fun _ _ h => h.elim)) (.inr rfl) _
  have ha' : (a : Int) < 8 := by omega
  have hb' : (b : Int) < 8 := by omega
  have hc' : (c : Int) < 8 := by omega
  have hlk : ∀ W, W.heap[bm]? = some (.cells (mcells rs (.map (some bs)) (.map (some bw)) tv) 64 (0, 0)) → ownI W bs nS DS → ownC W bw nW DW → Calls Try.prog 41 #[.pointer (some ⟨bm, 0, none⟩), .int .i64 rb] W fun e w' => e = .returned (.agg #[.int .i64 ((Hd.lookS S Wf rb).getD 0), .bool (Hd.lookS S Wf rb).isSome]) ∧ Below W.heap.size W w' :=
    fun W x y z => look_any bm bs bw nS nW rs tv DS DW S Wf rb W hwf hrs x y vS z vW
  clear hM hS hW vS vW hk0
  have hf0 := field0
  generalize Hd.lookS S Wf rb = lk at *
  go_enter Try.func34, Try.ntmps34
  go_wp2
  go_quiet (fail)
  go_wp2
  go_region_with (go_at_call 41; refine (hlk _ ?_ ?_ ?_).mono ?_; (exact HM1.out); (exact HS1.out); (exact HW1.out); rintro e w5 ⟨rfl, hb5⟩; obtain ⟨k1, k2, k3⟩ := lat _ (undrewN hb5))
  go_wp2
  go_end0
  exact ⟨rfl, (k3.out _).1, (k3.out _).2⟩

set_option maxRecDepth 100000 in
set_option maxHeartbeats 1000000 in
theorem do_has (bm bs bw nS nW : Nat) (rs : List Int) (tv : Value) (DS DW : DU) (S : Int → Option Int) (Wf : Int → Option (Option Int)) (a b c : Nat) (num : Int) (w : World) (ha : a < 8) (hb : b < 8) (hc : c < 8) (hrs : rs.length = 8) (hwf : wf (rs.getD b 0)) (hne1 : bs ≠ bm) (hne2 : bw ≠ bm)
    (hM : w.heap[bm]? = some (.cells (mcells rs (.map (some bs)) (.map (some bw)) tv) 64 (0, 0))) (hS : ownI w bs nS DS) (vS : VI DS S) (hW : ownC w bw nW DW) (vW : VC DW Wf) :
    Calls Try.prog 34 #[.pointer (some ⟨bm, 0, none⟩), .agg #[.int .u8 3, .int .u8 a, .int .u8 b, .int .u8 c, .int .i64 num]] w fun e w' => e = .returned (.tuple #[]) ∧
      w'.heap[bm]? = some (.cells (mcells (rs.set a (if (Hd.lookS S Wf (rs.getD b 0)).isSome then 1 else 0)) (.map (some bs)) (.map (some bw)) tv) 64 (0, 0)) ∧ Keeps (· = bm) w w' := by
  have h1 := mreg hM a (by omega)
  have h2 := mreg hM b (by omega)
  have h3 := mreg hM c (by omega)
  have hfz := mfree hM a
  have hlt : bm < w.heap.size := (Array.getElem?_eq_some_iff.1 hM).1
  generalize rs.getD a 0 = ra at *
  generalize rs.getD b 0 = rb at *
  generalize rs.getD c 0 = rc at *
  have hk0 : Keeps (fun _ => False) w (w.alloc (.cells #[.int .u8 3, .int .u8 a, .int .u8 b, .int .u8 c, .int .i64 num] 70)) := (Keeps.refl _ w).alloc _
  have hk1 : ∀ n, Keeps (· = bm) w (((w.alloc (.cells #[.int .u8 3, .int .u8 a, .int .u8 b, .int .u8 c, .int .i64 num] 70)).drewN n).setCell ⟨bm, a, none⟩ (.int .i64 0)) := fun n => Keeps.setCell (S := (· = bm)) (p := ⟨bm, a, none⟩) ((hk0.mono (fun _ _ h => h.elim)).drewN n) (.inr rfl) _
  have HM1 : Hid (∀ n, (((w.alloc (.cells #[.int .u8 3, .int .u8 a, .int .u8 b, .int .u8 c, .int .i64 num] 70)).drewN n).setCell ⟨bm, a, none⟩ (.int .i64 0)).heap[bm]? = some (.cells (mcells (rs.set a 0) (.map (some bs)) (.map (some bw)) tv) 64 (0, 0))) :=
    fun n => m_set (m_later hM (hk0.drewN n) (fun h => h)) a (by omega) 0
  have HS1 : Hid (∀ n, ownI (((w.alloc (.cells #[.int .u8 3, .int .u8 a, .int .u8 b, .int .u8 c, .int .i64 num] 70)).drewN n).setCell ⟨bm, a, none⟩ (.int .i64 0)) bs nS DS) := fun n => map_keeps hS (hk1 n) hne1
  have HW1 : Hid (∀ n, ownC (((w.alloc (.cells #[.int .u8 3, .int .u8 a, .int .u8 b, .int .u8 c, .int .i64 num] 70)).drewN n).setCell ⟨bm, a, none⟩ (.int .i64 0)) bw nW DW) := fun n => map_keeps hW (hk1 n) hne2
  have HK1 : Hid (∀ n, Keeps (· = bm) w (((w.alloc (.cells #[.int .u8 3, .int .u8 a, .int .u8 b, .int .u8 c, .int .i64 num] 70)).drewN n).setCell ⟨bm, a, none⟩ (.int .i64 0))) := hk1
  have ha' : (a : Int) < 8 := by omega
  have hb' : (b : Int) < 8 := by omega
  have hc' : (c : Int) < 8 := by omega
  have hlk : ∀ W, W.heap[bm]? = some (.cells (mcells (rs.set a 0) (.map (some bs)) (.map (some bw)) tv) 64 (0, 0)) → ownI W bs nS DS → ownC W bw nW DW → Calls Try.prog 41 #[.pointer (some ⟨bm, 0, none⟩), .int .i64 rb] W fun e w' => e = .returned (.agg #[.int .i64 ((Hd.lookS S Wf rb).getD 0), .bool (Hd.lookS S Wf rb).isSome]) ∧ Below W.heap.size W w' :=
    fun W x y z => look_any bm bs bw nS nW (rs.set a 0) tv DS DW S Wf rb W hwf (by simp [hrs]) x y vS z vW
  clear hM hS hW vS vW hk0 hk1
  have hf1 := field1
  generalize Hd.lookS S Wf rb = lk at *
  cases lk with
  | some x =>
    simp only [Option.getD_some, Option.isSome_some, if_true] at hlk ⊢
    go_enter Try.func34, Try.ntmps34
    go_wp2
    go_quiet (fail)
    go_wp2_with fail
    refine (hlk _ (HM1.out _) (HS1.out _) (HW1.out _)).mono ?_
    rintro e w5 ⟨rfl, hb5⟩
    have hM5 := m_later (HM1.out _) (Below.keeps (S := fun _ => False) hb5) (fun h => h)
    have HK5 : Hid (Keeps (· = bm) w w5) := (HK1.out _).trans (Below.keeps hb5)
    have g1 := mreg hM5 a (by simp; omega)
    have g2 := mfree hM5 a
    have HM5 : Hid (w5.heap[bm]? = some (.cells (mcells (rs.set a 0) (.map (some bs)) (.map (some bw)) tv) 64 (0, 0))) := hM5
    clear hM5 hb5 HM1 HS1 HW1 HK1
    generalize (rs.set a 0).getD a 0 = ra1 at *
    go_wp2
    go_end0
    have e2 : (rs.set a 0).set a 1 = rs.set a 1 := by simp
    refine ⟨rfl, ?_, Keeps.setCell (S := (· = bm)) (p := ⟨bm, a, none⟩) HK5.out (.inr rfl) _⟩
    have := m_set HM5.out a (by simp; omega) 1
    rw [e2] at this
    exact this
  | none =>
    simp only [Option.getD_none, Option.isSome_none, Bool.false_eq_true, if_false] at hlk ⊢
    go_enter Try.func34, Try.ntmps34
    go_wp2
    go_quiet (fail)
    go_wp2_with fail
    refine (hlk _ (HM1.out _) (HS1.out _) (HW1.out _)).mono ?_
    rintro e w5 ⟨rfl, hb5⟩
    have hM5 := m_later (HM1.out _) (Below.keeps (S := fun _ => False) hb5) (fun h => h)
    have HK5 : Hid (Keeps (· = bm) w w5) := (HK1.out _).trans (Below.keeps hb5)
    have HM5 : Hid (w5.heap[bm]? = some (.cells (mcells (rs.set a 0) (.map (some bs)) (.map (some bw)) tv) 64 (0, 0))) := hM5
    clear hM5 hb5 HM1 HS1 HW1 HK1
    go_wp2
    go_end0
    exact ⟨rfl, HM5.out, HK5.out⟩

end Go.Proofs.Ytabmdknlncijjaa
