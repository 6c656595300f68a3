import Derived.Test.YtedbdejhpjkofaaU1
namespace Go.Proofs.Ytedbdejhpjkofaa
open Go.RowKit Go.Maps
set_option linter.unusedVariables false
set_option linter.unusedSimpArgs false

theorem undrewN {w w' : World} {n : Nat} (h : Below (w.drewN n).heap.size (w.drewN n) w') : Below w.heap.size w w' := ⟨h.os, h.tape, h.output, h.size, h.block⟩
theorem Below.keeps {w w' : World} {S : Nat → Prop} (h : Below w.heap.size w w') : Keeps S w w' := Keeps.of_below h

theorem field0 (x : Int) (y : Bool) (w : World) : (Instr.field 85 (.agg #[.int .i64 x, .bool y]) 0).run Try.prog w = .ok (.int .i64 x) w := by kernel_rfl
theorem field1 (x : Int) (y : Bool) (w : World) : (Instr.field 85 (.agg #[.int .i64 x, .bool y]) 1).run Try.prog w = .ok (.bool y) w := by kernel_rfl

set_option maxRecDepth 100000 in
set_option maxHeartbeats 1000000 in
theorem do_get (base bm bs bw nS nW : Nat) (rs : List Int) (tv rv : Value) (n : Nat) (xs : List Value) (DS DW : DU) (S : Int → Option Int) (Wf : Int → Option (Option Int)) (a b c : Nat) (num : Int) (w : World) (ha : a < 8) (hb : b < 8) (hc : c < 8) (hrs : rs.length = 8) (hn : n ≤ 256) (hwf : wf (rs.getD b 0))
    (hM : w.heap[bm]? = some (.cells (mcells rs (.map (some bs)) (.map (some bw)) tv rv) 82 (0, 0))) (hown : w.ownsRow base 3 1 rv n xs) (hbase : base ≤ w.heap.size) (hS : ownI w bs nS DS) (vS : VI DS S) (hW : ownC w bw nW DW) (vW : VC DW Wf) :
    Calls Try.prog 40 #[.pointer (some ⟨bm, 0, none⟩), .agg #[.int .u8 2, .int .u8 a, .int .u8 b, .int .u8 c, .int .i64 num]] w fun e w' => e = .returned (.tuple #[]) ∧
      ∃ rv', w'.heap[bm]? = some (.cells (mcells (rs.set a ((Hd.lookS S Wf (rs.getD b 0)).getD 0)) (.map (some bs)) (.map (some bw)) tv rv') 82 (0, 0)) ∧ w'.ownsRow base 3 1 rv' (n + 1) (xs ++ [.int .i64 (rs.getD b 0)]) ∧ (∀ j, rv'.ownBlock = some j → rv.ownBlock = some j ∨ w.heap.size ≤ j) ∧ Keeps (fun j => j = bm ∨ rv.ownBlock = some j) w w' := by
  have h1 := mreg hM a (by omega)
  have h2 := mreg hM b (by omega)
  have h3 := mreg hM c (by omega)
  have hlt : bm < w.heap.size := (Array.getElem?_eq_some_iff.1 hM).1
  generalize rs.getD a 0 = ra at *
  generalize rs.getD b 0 = rb at *
  generalize rs.getD c 0 = rc at *
  have hk0 : Keeps (fun _ => False) w (w.alloc (.cells #[.int .u8 2, .int .u8 a, .int .u8 b, .int .u8 c, .int .i64 num] 92)) := (Keeps.refl _ w).alloc _
  have hlk : Hid (∀ q, Calls Try.prog 46 #[.pointer (some ⟨bm, 0, none⟩), .int .i64 rb] ((w.alloc (.cells #[.int .u8 2, .int .u8 a, .int .u8 b, .int .u8 c, .int .i64 num] 92)).drewN q) fun e w' => e = .returned (.agg #[.int .i64 ((Hd.lookS S Wf rb).getD 0), .bool (Hd.lookS S Wf rb).isSome]) ∧
      w'.cell? ⟨bm, a, none⟩ = some (.int .i64 (rs.getD a 0)) ∧ w'.frozen? ⟨bm, a, none⟩ = false ∧ Hid (∀ v, ∃ rv', (w'.setCell ⟨bm, a, none⟩ (.int .i64 v)).heap[bm]? = some (.cells (mcells (rs.set a v) (.map (some bs)) (.map (some bw)) tv rv') 82 (0, 0)) ∧ (w'.setCell ⟨bm, a, none⟩ (.int .i64 v)).ownsRow base 3 1 rv' (n + 1) (xs ++ [.int .i64 rb]) ∧ (∀ j, rv'.ownBlock = some j → rv.ownBlock = some j ∨ w.heap.size ≤ j) ∧ Keeps (fun j => j = bm ∨ rv.ownBlock = some j) w (w'.setCell ⟨bm, a, none⟩ (.int .i64 v)))) := by
    intro q
    refine (read_any base bm bs bw nS nW rs tv rv n xs DS DW S Wf rb _ hwf hrs hn (m_later hM (hk0.drewN q) (fun h => h)) (own_drewN (hown.alloc _) _) (by simp; omega) (hS.alloc _) vS (hW.alloc _) vW).mono ?_
    rintro e w5 ⟨rfl, rv', hM5, hO5, hN5, hK5⟩
    refine ⟨rfl, mreg hM5 a (by omega), mfree hM5 a, fun v => ⟨rv', m_set hM5 a (by omega) v, own_set hO5 (own_ne hO5 hM5 (by decide)) _, fun j hj => (hN5 j hj).imp id (fun h => by simp at h; omega), ?_⟩⟩
    have hk5 : Keeps (fun j => j = bm ∨ rv.ownBlock = some j) w w5 := (((hk0.drewN q).mono (fun _ _ h => h.elim)).trans hK5)
    exact Keeps.setCell (p := ⟨bm, a, none⟩) hk5 (.inr (.inl rfl)) _
  have ha' : (a : Int) < 8 := by omega
  have hb' : (b : Int) < 8 := by omega
  have hc' : (c : Int) < 8 := by omega
  clear hM hS hW vS vW hk0 hown
  have hf0 := field0
  generalize Hd.lookS S Wf rb = lk at *
  go_enter Try.func40, Try.ntmps40
  go_wp2
  go_quiet (fail)
  go_wp2
  go_region_with (go_at_call 46; refine (hlk.out _).mono ?_; rintro e w5 ⟨rfl, k1, k2, k3⟩)
  go_wp2
  go_end0
  obtain ⟨rv', x1, x2, x3, x4⟩ := k3.out (lk.getD 0)
  exact ⟨rfl, rv', x1, x2, x3, x4⟩

set_option maxRecDepth 100000 in
set_option maxHeartbeats 1000000 in
theorem do_has (base bm bs bw nS nW : Nat) (rs : List Int) (tv rv : Value) (n : Nat) (xs : List Value) (DS DW : DU) (S : Int → Option Int) (Wf : Int → Option (Option Int)) (a b c : Nat) (num : Int) (w : World) (ha : a < 8) (hb : b < 8) (hc : c < 8) (hrs : rs.length = 8) (hn : n ≤ 256) (hwf : wf (rs.getD b 0)) (hne1 : bs ≠ bm) (hne2 : bw ≠ bm)
    (hM : w.heap[bm]? = some (.cells (mcells rs (.map (some bs)) (.map (some bw)) tv rv) 82 (0, 0))) (hown : w.ownsRow base 3 1 rv n xs) (hbase : base ≤ w.heap.size) (hS : ownI w bs nS DS) (vS : VI DS S) (hW : ownC w bw nW DW) (vW : VC DW Wf) :
    Calls Try.prog 40 #[.pointer (some ⟨bm, 0, none⟩), .agg #[.int .u8 3, .int .u8 a, .int .u8 b, .int .u8 c, .int .i64 num]] w fun e w' => e = .returned (.tuple #[]) ∧
      ∃ rv', w'.heap[bm]? = some (.cells (mcells (rs.set a (if (Hd.lookS S Wf (rs.getD b 0)).isSome then 1 else 0)) (.map (some bs)) (.map (some bw)) tv rv') 82 (0, 0)) ∧ w'.ownsRow base 3 1 rv' (n + 1) (xs ++ [.int .i64 (rs.getD b 0)]) ∧ (∀ j, rv'.ownBlock = some j → rv.ownBlock = some j ∨ w.heap.size ≤ j) ∧ Keeps (fun j => j = bm ∨ rv.ownBlock = some j) w w' := by
  have h1 := mreg hM a (by omega)
  have h2 := mreg hM b (by omega)
  have h3 := mreg hM c (by omega)
  have hfz := mfree hM a
  have hlt : bm < w.heap.size := (Array.getElem?_eq_some_iff.1 hM).1
  generalize rs.getD a 0 = ra at *
  generalize rs.getD b 0 = rb at *
  generalize rs.getD c 0 = rc at *
  have hk0 : Keeps (fun _ => False) w (w.alloc (.cells #[.int .u8 3, .int .u8 a, .int .u8 b, .int .u8 c, .int .i64 num] 92)) := (Keeps.refl _ w).alloc _
  have hk1 : ∀ n, Keeps (· = bm) w (((w.alloc (.cells #[.int .u8 3, .int .u8 a, .int .u8 b, .int .u8 c, .int .i64 num] 92)).drewN n).setCell ⟨bm, a, none⟩ (.int .i64 0)) := fun n => Keeps.setCell (S := (· = bm)) (p := ⟨bm, a, none⟩) ((hk0.mono (fun _ _ h => h.elim)).drewN n) (.inr rfl) _
  have hlk : Hid (∀ q, Calls Try.prog 46 #[.pointer (some ⟨bm, 0, none⟩), .int .i64 rb] (((w.alloc (.cells #[.int .u8 3, .int .u8 a, .int .u8 b, .int .u8 c, .int .i64 num] 92)).drewN q).setCell ⟨bm, a, none⟩ (.int .i64 0)) fun e w' => e = .returned (.agg #[.int .i64 ((Hd.lookS S Wf rb).getD 0), .bool (Hd.lookS S Wf rb).isSome]) ∧
      ∃ rv', w'.heap[bm]? = some (.cells (mcells (rs.set a 0) (.map (some bs)) (.map (some bw)) tv rv') 82 (0, 0)) ∧ w'.ownsRow base 3 1 rv' (n + 1) (xs ++ [.int .i64 rb]) ∧ (∀ j, rv'.ownBlock = some j → rv.ownBlock = some j ∨ w.heap.size ≤ j) ∧ Keeps (fun j => j = bm ∨ rv.ownBlock = some j) w w') := by
    intro q
    have hO : (((w.alloc (.cells #[.int .u8 3, .int .u8 a, .int .u8 b, .int .u8 c, .int .i64 num] 92)).drewN q).setCell ⟨bm, a, none⟩ (.int .i64 0)).ownsRow base 3 1 rv n xs := own_set (p := ⟨bm, a, none⟩) (own_drewN (hown.alloc _) _) (own_ne hown hM (by decide)) _
    refine (read_any base bm bs bw nS nW (rs.set a 0) tv rv n xs DS DW S Wf rb _ hwf (by simp [hrs]) hn (m_set (m_later hM (hk0.drewN q) (fun h => h)) a (by omega) 0) hO (by have := (hk1 q).size; omega) (map_keeps hS (hk1 q) hne1) vS (map_keeps hW (hk1 q) hne2) vW).mono ?_
    rintro e w5 ⟨rfl, rv', hM5, hO5, hN5, hK5⟩
    exact ⟨rfl, rv', hM5, hO5, fun j hj => (hN5 j hj).imp id (fun h => by have := (hk1 q).size; omega), ((hk1 q).mono (fun _ _ h => .inl h)).trans hK5⟩
  have ha' : (a : Int) < 8 := by omega
  have hb' : (b : Int) < 8 := by omega
  have hc' : (c : Int) < 8 := by omega
  clear hM hS hW vS vW hk0 hk1 hown
  have hf1 := field1
  generalize Hd.lookS S Wf rb = lk at *
  cases lk with
  | some x =>
    simp only [Option.getD_some, Option.isSome_some, if_true] at hlk ⊢
    go_enter Try.func40, Try.ntmps40
    go_wp2
    go_quiet (fail)
    go_wp2_with fail
    refine (hlk.out _).mono ?_
    rintro e w5 ⟨rfl, rv', hM5, hO5, hN5, hK5⟩
    have g1 := mreg hM5 a (by simp; omega)
    have g2 := mfree hM5 a
    have HM5 : Hid (w5.heap[bm]? = some (.cells (mcells (rs.set a 0) (.map (some bs)) (.map (some bw)) tv rv') 82 (0, 0))) := hM5
    have HO5 : Hid _ := hO5
    have HN5 : Hid _ := hN5
    have HK5 : Hid _ := hK5
    clear hM5 hlk hO5 hN5 hK5
    generalize (rs.set a 0).getD a 0 = ra1 at *
    go_wp2
    go_end0
    have e2 : (rs.set a 0).set a 1 = rs.set a 1 := by simp
    refine ⟨rfl, rv', ?_, own_set HO5.out (own_ne HO5.out HM5.out (by decide)) _, HN5.out, Keeps.setCell (p := ⟨bm, a, none⟩) HK5.out (.inr (.inl rfl)) _⟩
    have := m_set HM5.out a (by simp; omega) 1
    rw [e2] at this
    exact this
  | none =>
    simp only [Option.getD_none, Option.isSome_none, Bool.false_eq_true, if_false] at hlk ⊢
    go_enter Try.func40, Try.ntmps40
    go_wp2
    go_quiet (fail)
    go_wp2_with fail
    refine (hlk.out _).mono ?_
    rintro e w5 ⟨rfl, rv', hM5, hO5, hN5, hK5⟩
    have HM5 : Hid (w5.heap[bm]? = some (.cells (mcells (rs.set a 0) (.map (some bs)) (.map (some bw)) tv rv') 82 (0, 0))) := hM5
    have HO5 : Hid _ := hO5
    have HN5 : Hid _ := hN5
    have HK5 : Hid _ := hK5
    clear hM5 hlk hO5 hN5 hK5
    go_wp2
    go_end0
    exact ⟨rfl, rv', HM5.out, HO5.out, HN5.out, HK5.out⟩

end Go.Proofs.Ytedbdejhpjkofaa
