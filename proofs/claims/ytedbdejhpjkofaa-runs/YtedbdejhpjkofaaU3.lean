import Derived.Test.YtedbdejhpjkofaaU2
namespace Go.Proofs.Ytedbdejhpjkofaa
open Go.RowKit Go.Maps
set_option linter.unusedVariables false
set_option linter.unusedSimpArgs false


set_option maxRecDepth 100000 in
set_option maxHeartbeats 1000000 in
theorem do_add (bm : Nat) (rs : List Int) (snap wrt told rds : Value) (a b c : Nat) (num : Int) (w : World) (ha : a < 8) (hb : b < 8) (hc : c < 8) (hrs : rs.length = 8)
    (hM : w.heap[bm]? = some (.cells (mcells rs snap wrt told rds) 82 (0, 0))) :
    Calls Try.prog 40 #[.pointer (some ⟨bm, 0, none⟩), .agg #[.int .u8 6, .int .u8 a, .int .u8 b, .int .u8 c, .int .i64 num]] w fun e w' => e = .returned (.tuple #[]) ∧
      w'.heap[bm]? = some (.cells (mcells (rs.set a (wrap64 (rs.getD b 0 + rs.getD c 0))) snap wrt told rds) 82 (0, 0)) ∧ Keeps (· = bm) w w' := by
  have h1 := mreg hM a (by omega)
  have h2 := mreg hM b (by omega)
  have h3 := mreg hM c (by omega)
  have hfz := mfree hM a
  have hlt : bm < w.heap.size := (Array.getElem?_eq_some_iff.1 hM).1
  generalize rs.getD a 0 = ra at *
  generalize rs.getD b 0 = rb at *
  generalize rs.getD c 0 = rc at *
  have HM : Hid (w.heap[bm]? = some (.cells (mcells rs snap wrt told rds) 82 (0, 0))) := hM
  clear hM
  have ha' : (a : Int) < 8 := by omega
  have hb' : (b : Int) < 8 := by omega
  have hc' : (c : Int) < 8 := by omega
  go_enter Try.func40, Try.ntmps40
  go_wp2
  go_quiet (fail)
  go_wp2
  go_end0
  have hk : Keeps (fun _ => False) w ((w.alloc (.cells #[.int .u8 6, .int .u8 a, .int .u8 b, .int .u8 c, .int .i64 num] 92)).drewN nq) := ((Keeps.refl _ w).alloc _).drewN _
  exact ⟨rfl, m_set (m_later HM.out hk (fun h => h)) a (by omega) _, Keeps.setCell (S := (· = bm)) (p := ⟨bm, a, none⟩) (hk.mono (fun _ _ h => h.elim)) (.inr rfl) _⟩

set_option maxRecDepth 100000 in
set_option maxHeartbeats 1000000 in
theorem do_sub (bm : Nat) (rs : List Int) (snap wrt told rds : Value) (a b c : Nat) (num : Int) (w : World) (ha : a < 8) (hb : b < 8) (hc : c < 8) (hrs : rs.length = 8)
    (hM : w.heap[bm]? = some (.cells (mcells rs snap wrt told rds) 82 (0, 0))) :
    Calls Try.prog 40 #[.pointer (some ⟨bm, 0, none⟩), .agg #[.int .u8 7, .int .u8 a, .int .u8 b, .int .u8 c, .int .i64 num]] w fun e w' => e = .returned (.tuple #[]) ∧
      w'.heap[bm]? = some (.cells (mcells (rs.set a (wrap64 (rs.getD b 0 - rs.getD c 0))) snap wrt told rds) 82 (0, 0)) ∧ Keeps (· = bm) w w' := by
  have h1 := mreg hM a (by omega)
  have h2 := mreg hM b (by omega)
  have h3 := mreg hM c (by omega)
  have hfz := mfree hM a
  have hlt : bm < w.heap.size := (Array.getElem?_eq_some_iff.1 hM).1
  generalize rs.getD a 0 = ra at *
  generalize rs.getD b 0 = rb at *
  generalize rs.getD c 0 = rc at *
  have HM : Hid (w.heap[bm]? = some (.cells (mcells rs snap wrt told rds) 82 (0, 0))) := hM
  clear hM
  have ha' : (a : Int) < 8 := by omega
  have hb' : (b : Int) < 8 := by omega
  have hc' : (c : Int) < 8 := by omega
  go_enter Try.func40, Try.ntmps40
  go_wp2
  go_quiet (fail)
  go_wp2
  go_end0
  have hk : Keeps (fun _ => False) w ((w.alloc (.cells #[.int .u8 7, .int .u8 a, .int .u8 b, .int .u8 c, .int .i64 num] 92)).drewN nq) := ((Keeps.refl _ w).alloc _).drewN _
  exact ⟨rfl, m_set (m_later HM.out hk (fun h => h)) a (by omega) _, Keeps.setCell (S := (· = bm)) (p := ⟨bm, a, none⟩) (hk.mono (fun _ _ h => h.elim)) (.inr rfl) _⟩

set_option maxRecDepth 100000 in
set_option maxHeartbeats 1000000 in
theorem do_mul (bm : Nat) (rs : List Int) (snap wrt told rds : Value) (a b c : Nat) (num : Int) (w : World) (ha : a < 8) (hb : b < 8) (hc : c < 8) (hrs : rs.length = 8)
    (hM : w.heap[bm]? = some (.cells (mcells rs snap wrt told rds) 82 (0, 0))) :
    Calls Try.prog 40 #[.pointer (some ⟨bm, 0, none⟩), .agg #[.int .u8 8, .int .u8 a, .int .u8 b, .int .u8 c, .int .i64 num]] w fun e w' => e = .returned (.tuple #[]) ∧
      w'.heap[bm]? = some (.cells (mcells (rs.set a (wrap64 (rs.getD b 0 * rs.getD c 0))) snap wrt told rds) 82 (0, 0)) ∧ Keeps (· = bm) w w' := by
  have h1 := mreg hM a (by omega)
  have h2 := mreg hM b (by omega)
  have h3 := mreg hM c (by omega)
  have hfz := mfree hM a
  have hlt : bm < w.heap.size := (Array.getElem?_eq_some_iff.1 hM).1
  generalize rs.getD a 0 = ra at *
  generalize rs.getD b 0 = rb at *
  generalize rs.getD c 0 = rc at *
  have HM : Hid (w.heap[bm]? = some (.cells (mcells rs snap wrt told rds) 82 (0, 0))) := hM
  clear hM
  have ha' : (a : Int) < 8 := by omega
  have hb' : (b : Int) < 8 := by omega
  have hc' : (c : Int) < 8 := by omega
  go_enter Try.func40, Try.ntmps40
  go_wp2
  go_quiet (fail)
  go_wp2
  go_end0
  have hk : Keeps (fun _ => False) w ((w.alloc (.cells #[.int .u8 8, .int .u8 a, .int .u8 b, .int .u8 c, .int .i64 num] 92)).drewN nq) := ((Keeps.refl _ w).alloc _).drewN _
  exact ⟨rfl, m_set (m_later HM.out hk (fun h => h)) a (by omega) _, Keeps.setCell (S := (· = bm)) (p := ⟨bm, a, none⟩) (hk.mono (fun _ _ h => h.elim)) (.inr rfl) _⟩

set_option maxRecDepth 100000 in
set_option maxHeartbeats 1000000 in
theorem do_put (bm bw nW : Nat) (rs : List Int) (snap told rds : Value) (DW : DU) (Wf : Int → Option (Option Int)) (a b c : Nat) (num : Int) (w : World) (ha : a < 8) (hb : b < 8) (hc : c < 8) (hrs : rs.length = 8) (hn : nW < maxLen) (hwa : wf (rs.getD a 0)) (hwb : wf (rs.getD b 0))
    (hM : w.heap[bm]? = some (.cells (mcells rs snap (.map (some bw)) told rds) 82 (0, 0))) (hW : ownC w bw nW DW) (vW : VC DW Wf) :
    Calls Try.prog 40 #[.pointer (some ⟨bm, 0, none⟩), .agg #[.int .u8 4, .int .u8 a, .int .u8 b, .int .u8 c, .int .i64 num]] w fun e w' => e = .returned (.tuple #[]) ∧
      (∃ D', ownC w' bw (nW + 1) D' ∧ VC D' (Hd.upd Wf (rs.getD a 0) (some (some (rs.getD b 0))))) ∧ Keeps (· = bw) w w' := by
  have h1 := mreg hM a (by omega)
  have h2 := mreg hM b (by omega)
  have h3 := mreg hM c (by omega)
  have h9 := mwrt hM hrs
  have hlt : bm < w.heap.size := (Array.getElem?_eq_some_iff.1 hM).1
  generalize rs.getD a 0 = ra at *
  generalize rs.getD b 0 = rb at *
  generalize rs.getD c 0 = rc at *
  clear hM
  have ha' : (a : Int) < 8 := by omega
  have hb' : (b : Int) < 8 := by omega
  have hc' : (c : Int) < 8 := by omega
  go_enter Try.func40, Try.ntmps40
  go_wp2
  go_quiet (fail)
  go_wp2_with (at_mapUpdate; refine wpList_mapUpdate_own _ rfl _ _ _ 59 rfl 3 85 law3 Try.underlying59 RC bw nW DW rfl (hW.alloc _) hn (.int .i64 ra) (.agg #[.int .i64 rb, .bool true]) (kL ra) rfl rfl (keyOf_int_mk Try.underlying3 hwa) _ [] (RC_mk hwb true) ?_; intro w1 hown1 hgrow1)
  go_end0
  refine ⟨rfl, ⟨_, hown1, VC_put vW hW.isMap ra (some rb)⟩, ?_⟩
  exact (((Keeps.refl _ w).alloc _).drewN nq).grown hgrow1 (fun k e => .inr (by cases e; rfl))

set_option maxRecDepth 100000 in
set_option maxHeartbeats 1000000 in
theorem do_del (bm bw nW : Nat) (rs : List Int) (snap told rds : Value) (DW : DU) (Wf : Int → Option (Option Int)) (a b c : Nat) (num : Int) (w : World) (ha : a < 8) (hb : b < 8) (hc : c < 8) (hrs : rs.length = 8) (hn : nW < maxLen) (hwa : wf (rs.getD a 0)) 
    (hM : w.heap[bm]? = some (.cells (mcells rs snap (.map (some bw)) told rds) 82 (0, 0))) (hW : ownC w bw nW DW) (vW : VC DW Wf) :
    Calls Try.prog 40 #[.pointer (some ⟨bm, 0, none⟩), .agg #[.int .u8 5, .int .u8 a, .int .u8 b, .int .u8 c, .int .i64 num]] w fun e w' => e = .returned (.tuple #[]) ∧
      (∃ D', ownC w' bw (nW + 1) D' ∧ VC D' (Hd.upd Wf (rs.getD a 0) (some (none)))) ∧ Keeps (· = bw) w w' := by
  have h1 := mreg hM a (by omega)
  have h2 := mreg hM b (by omega)
  have h3 := mreg hM c (by omega)
  have h9 := mwrt hM hrs
  have hlt : bm < w.heap.size := (Array.getElem?_eq_some_iff.1 hM).1
  generalize rs.getD a 0 = ra at *
  generalize rs.getD b 0 = rb at *
  generalize rs.getD c 0 = rc at *
  clear hM
  have ha' : (a : Int) < 8 := by omega
  have hb' : (b : Int) < 8 := by omega
  have hc' : (c : Int) < 8 := by omega
  go_enter Try.func40, Try.ntmps40
  go_wp2
  go_quiet (fail)
  go_wp2_with (at_mapUpdate; refine wpList_mapUpdate_own _ rfl _ _ _ 59 rfl 3 85 law3 Try.underlying59 RC bw nW DW rfl (hW.alloc _) hn (.int .i64 ra) (.agg #[.int .i64 0, .bool false]) (kL ra) rfl rfl (keyOf_int_mk Try.underlying3 hwa) _ [] (RC_mk wf0 false) ?_; intro w1 hown1 hgrow1)
  go_end0
  refine ⟨rfl, ⟨_, hown1, VC_put vW hW.isMap ra (none)⟩, ?_⟩
  exact (((Keeps.refl _ w).alloc _).drewN nq).grown hgrow1 (fun k e => .inr (by cases e; rfl))

end Go.Proofs.Ytedbdejhpjkofaa
