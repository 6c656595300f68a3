import Derived.Test.YtedbdejhpjkofaaU3
import Derived.Test.YtedbdejhpjkofaaPlain3
namespace Go.Proofs.Ytedbdejhpjkofaa
open Go.RowKit Go.Maps
set_option linter.unusedVariables false
set_option linter.unusedSimpArgs false

/-- the machine in block bm stands as s says; what it told lies behind tv, the keys that it read behind rv -/
structure Mach (w : World) (base bm bs bw nS nW : Nat) (tv rv : Value) (S : Int → Option Int) (s : Hd.St) : Prop where
  len : s.rs.length = 8
  wfr : ∀ a, a < 8 → wf (s.rs.getD a 0)
  blk : w.heap[bm]? = some (.cells (mcells s.rs (.map (some bs)) (.map (some bw)) tv rv) 82 (0, 0))
  told : w.ownsRow base 3 1 tv s.T.length (s.T.map (Value.int .i64))
  reads : w.ownsRow base 3 1 rv s.R.length (s.R.map (Value.int .i64))
  apart : ∀ k, tv.ownBlock = some k → ¬ rv.ownBlock = some k
  snap : ∃ D, ownI w bs nS D ∧ VI D S
  wrt : ∃ D, ownC w bw nW D ∧ VC D s.W
  wfS : ∀ k v, S k = some v → wf v
  wfW : ∀ k v, s.W k = some (some v) → wf v
  n1 : bs ≠ bm
  n2 : bw ≠ bm
  n3 : bs ≠ bw

theorem w64_eq (n : Int) : wrap64 n = Hd.w64 n := by unfold wrap64 Hd.w64; rfl
theorem wf_w64 (n : Int) : wf (Hd.w64 n) := by unfold wf; rw [← w64_eq]; exact wrap64_wf n
theorem wf_z : wf 0 := by unfold wf; decide
theorem wf_o : wf 1 := by unfold wf; decide

theorem wf_set {rs : List Int} (h : ∀ a, a < 8 → wf (rs.getD a 0)) (a : Nat) (v : Int) (hv : wf v) : ∀ b, b < 8 → wf ((rs.set a v).getD b 0) := by
  intro b hb
  by_cases e : a = b
  · subst e
    by_cases ha : a < rs.length
    · rw [List.getD_eq_getElem?_getD, List.getElem?_set_self ha]; exact hv
    · rw [List.set_eq_of_length_le (by omega)]; exact h a hb
  · rw [List.getD_eq_getElem?_getD, List.getElem?_set_ne e, ← List.getD_eq_getElem?_getD]; exact h b hb

/-- a register is set -/
theorem Mach.setReg {w w' : World} {base bm bs bw nS nW : Nat} {tv rv : Value} {S : Int → Option Int} {s : Hd.St} (h : Mach w base bm bs bw nS nW tv rv S s) (a : Nat) (v : Int) (hv : wf v)
    (hb : w'.heap[bm]? = some (.cells (mcells (s.rs.set a v) (.map (some bs)) (.map (some bw)) tv rv) 82 (0, 0))) (hk : Keeps (· = bm) w w') : Mach w' base bm bs bw nS (nW + 1) tv rv S { s with rs := s.rs.set a v } := by
  obtain ⟨D, hD, vD⟩ := h.snap
  obtain ⟨E, hE, vE⟩ := h.wrt
  exact ⟨by simpa using h.len, wf_set h.wfr a v hv, hb, own_keeps h.told hk (fun k hk' e => own_ne h.told h.blk (by decide) (e ▸ hk')), own_keeps h.reads hk (fun k hk' e => own_ne h.reads h.blk (by decide) (e ▸ hk')), h.apart, ⟨D, ownI_keeps hD hk h.n1, vD⟩, ⟨E, ownC_mono (ownC_keeps hE hk h.n2) (Nat.le_succ _), vE⟩, h.wfS, h.wfW, h.n1, h.n2, h.n3⟩

/-- a register is set behind a read -/
theorem Mach.readReg {w w' : World} {base bm bs bw nS nW : Nat} {tv rv rv' : Value} {S : Int → Option Int} {s : Hd.St} (h : Mach w base bm bs bw nS nW tv rv S s) (a : Nat) (v : Int) (hv : wf v) (k : Int)
    (hb : w'.heap[bm]? = some (.cells (mcells (s.rs.set a v) (.map (some bs)) (.map (some bw)) tv rv') 82 (0, 0))) (ho : w'.ownsRow base 3 1 rv' (s.R.length + 1) (s.R.map (Value.int .i64) ++ [.int .i64 k])) (hn : ∀ j, rv'.ownBlock = some j → rv.ownBlock = some j ∨ w.heap.size ≤ j) (hk : Keeps (fun j => j = bm ∨ rv.ownBlock = some j) w w') :
    Mach w' base bm bs bw nS (nW + 1) tv rv' S { s with rs := s.rs.set a v, R := s.R ++ [k] } := by
  obtain ⟨D, hD, vD⟩ := h.snap
  obtain ⟨E, hE, vE⟩ := h.wrt
  refine ⟨by simpa using h.len, wf_set h.wfr a v hv, hb, own_keeps h.told hk (fun k hk' e => e.elim (fun e => own_ne h.told h.blk (by decide) (e ▸ hk')) (h.apart k hk')), by simpa using ho, ?_, ⟨D, ownI_keeps hD hk (fun x => x.elim h.n1 (map_not_row hD h.reads)), vD⟩, ⟨E, ownC_mono (ownC_keeps hE hk (fun x => x.elim h.n2 (map_not_row hE h.reads))) (Nat.le_succ _), vE⟩, h.wfS, h.wfW, h.n1, h.n2, h.n3⟩
  intro j hj hj2
  rcases hn j hj2 with e | e
  · exact h.apart j hj e
  · have := (h.told.lt j hj).2
    omega

theorem wf_look {S : Int → Option Int} {W : Int → Option (Option Int)} (hS : ∀ k v, S k = some v → wf v) (hW : ∀ k v, W k = some (some v) → wf v) (k : Int) : wf ((Hd.lookS S W k).getD 0) := by
  unfold Hd.lookS
  cases hw : W k with
  | some c =>
    cases c with
    | none => exact wf_z
    | some v => exact hW k v hw
  | none =>
    simp only
    cases hs : S k with
    | none => exact wf_z
    | some v => exact hS k v hs

theorem wf_upd {W : Int → Option (Option Int)} (hW : ∀ k v, W k = some (some v) → wf v) (x : Int) (c : Option Int) (hc : ∀ v, c = some v → wf v) : ∀ k v, Hd.upd W x (some c) k = some (some v) → wf v := by
  intro k v h
  unfold Hd.upd at h
  split at h
  · injection h with h; exact hc v h
  · exact hW k v h

set_option maxRecDepth 100000 in
theorem do_any (w : World) (base bm bs bw nS nW : Nat) (tv rv : Value) (S : Int → Option Int) (s : Hd.St) (i : Hd.Ins) (h : Mach w base bm bs bw nS nW tv rv S s) (ha : i.a < 8) (hb : i.b < 8) (hc : i.c < 8) (hk : Hd.known i.kind = true) (h9 : i.kind ≠ 9) (h11 : i.kind ≠ 11)
    (hT : s.T.length ≤ 256) (hR : s.R.length ≤ 256) (hn : nW < maxLen) (hbase : base ≤ w.heap.size) :
    Calls Try.prog 40 #[.pointer (some ⟨bm, 0, none⟩), .agg #[.int .u8 i.kind, .int .u8 i.a, .int .u8 i.b, .int .u8 i.c, .int .i64 (wrap64 i.num)]] w fun e w' => e = .returned (.tuple #[]) ∧
      ∃ tv' rv', Mach w' base bm bs bw nS (nW + 1) tv' rv' S (Hd.stepS S i s) ∧ Keeps (fun k => k = bm ∨ k = bw ∨ tv.ownBlock = some k ∨ rv.ownBlock = some k) w w' := by
  obtain ⟨D, hD, vD⟩ := h.snap
  obtain ⟨E, hE, vE⟩ := h.wrt
  have hkk : 1 ≤ i.kind ∧ i.kind ≤ 11 := of_decide_eq_true hk
  have hcase : i.kind = 1 ∨ i.kind = 2 ∨ i.kind = 3 ∨ i.kind = 4 ∨ i.kind = 5 ∨ i.kind = 6 ∨ i.kind = 7 ∨ i.kind = 8 ∨ i.kind = 10 := by omega
  unfold Hd.stepS
  rcases hcase with e | e | e | e | e | e | e | e | e
  all_goals
    rw [e]
    simp only [Nat.reduceEqDiff, if_true, if_false]
  · refine (do_const bm s.rs _ _ tv rv i.a i.b i.c _ w ha hb hc h.len h.blk).mono ?_
    rintro e' w' ⟨rfl, hM, hK⟩
    rw [w64_eq] at hM
    exact ⟨rfl, tv, rv, h.setReg _ _ (wf_w64 _) hM hK, hK.mono (fun _ _ x => .inl x)⟩
  · refine (do_get base bm bs bw nS nW s.rs tv rv s.R.length _ D E S s.W i.a i.b i.c _ w ha hb hc h.len hR (h.wfr _ hb) h.blk h.reads hbase hD vD hE vE).mono ?_
    rintro e' w' ⟨rfl, rv', hM, hO, hN, hK⟩
    exact ⟨rfl, tv, rv', h.readReg _ _ (wf_look h.wfS h.wfW _) _ hM hO hN hK, hK.mono (fun _ _ x => x.elim .inl (fun y => .inr (.inr (.inr y))))⟩
  · refine (do_has base bm bs bw nS nW s.rs tv rv s.R.length _ D E S s.W i.a i.b i.c _ w ha hb hc h.len hR (h.wfr _ hb) h.n1 h.n2 h.blk h.reads hbase hD vD hE vE).mono ?_
    rintro e' w' ⟨rfl, rv', hM, hO, hN, hK⟩
    exact ⟨rfl, tv, rv', h.readReg _ _ (by split; exact wf_o; exact wf_z) _ hM hO hN hK, hK.mono (fun _ _ x => x.elim .inl (fun y => .inr (.inr (.inr y))))⟩
  · refine (do_put bm bw nW s.rs _ tv rv E s.W i.a i.b i.c _ w ha hb hc h.len hn (h.wfr _ ha) (h.wfr _ hb) h.blk hE vE).mono ?_
    rintro e' w' ⟨rfl, ⟨E', hE', vE'⟩, hK⟩
    exact ⟨rfl, tv, rv, ⟨h.len, h.wfr, m_later h.blk hK (fun x => h.n2 x.symm), own_keeps h.told hK (fun k hk' x => map_not_row hE h.told (x ▸ hk')), own_keeps h.reads hK (fun k hk' x => map_not_row hE h.reads (x ▸ hk')), h.apart, ⟨D, ownI_keeps hD hK h.n3, vD⟩, ⟨E', hE', vE'⟩, h.wfS, wf_upd h.wfW _ _ (fun v hv => by cases hv; exact h.wfr _ hb), h.n1, h.n2, h.n3⟩, hK.mono (fun _ _ x => .inr (.inl x))⟩
  · refine (do_del bm bw nW s.rs _ tv rv E s.W i.a i.b i.c _ w ha hb hc h.len hn (h.wfr _ ha) h.blk hE vE).mono ?_
    rintro e' w' ⟨rfl, ⟨E', hE', vE'⟩, hK⟩
    exact ⟨rfl, tv, rv, ⟨h.len, h.wfr, m_later h.blk hK (fun x => h.n2 x.symm), own_keeps h.told hK (fun k hk' x => map_not_row hE h.told (x ▸ hk')), own_keeps h.reads hK (fun k hk' x => map_not_row hE h.reads (x ▸ hk')), h.apart, ⟨D, ownI_keeps hD hK h.n3, vD⟩, ⟨E', hE', vE'⟩, h.wfS, wf_upd h.wfW _ _ (fun v hv => by cases hv), h.n1, h.n2, h.n3⟩, hK.mono (fun _ _ x => .inr (.inl x))⟩
  · refine (do_add bm s.rs _ _ tv rv i.a i.b i.c _ w ha hb hc h.len h.blk).mono ?_
    rintro e' w' ⟨rfl, hM, hK⟩
    rw [w64_eq] at hM
    exact ⟨rfl, tv, rv, h.setReg _ _ (wf_w64 _) hM hK, hK.mono (fun _ _ x => .inl x)⟩
  · refine (do_sub bm s.rs _ _ tv rv i.a i.b i.c _ w ha hb hc h.len h.blk).mono ?_
    rintro e' w' ⟨rfl, hM, hK⟩
    rw [w64_eq] at hM
    exact ⟨rfl, tv, rv, h.setReg _ _ (wf_w64 _) hM hK, hK.mono (fun _ _ x => .inl x)⟩
  · refine (do_mul bm s.rs _ _ tv rv i.a i.b i.c _ w ha hb hc h.len h.blk).mono ?_
    rintro e' w' ⟨rfl, hM, hK⟩
    rw [w64_eq] at hM
    exact ⟨rfl, tv, rv, h.setReg _ _ (wf_w64 _) hM hK, hK.mono (fun _ _ x => .inl x)⟩
  · refine (do_emit base bm s.rs _ _ tv rv s.T.length _ i.a i.b i.c _ w ha hb hc h.len hT h.blk h.told hbase).mono ?_
    rintro e' w' ⟨rfl, tv', hM, hO, hN, hK⟩
    refine ⟨rfl, tv', rv, ⟨h.len, h.wfr, hM, by simpa using hO, own_keeps h.reads hK (fun k hk' e => e.elim (fun e => own_ne h.reads h.blk (by decide) (e ▸ hk')) (fun e => h.apart k e hk')), ?_, ⟨D, ownI_keeps hD hK ?_, vD⟩, ⟨E, ownC_mono (ownC_keeps hE hK ?_) (Nat.le_succ _), vE⟩, h.wfS, h.wfW, h.n1, h.n2, h.n3⟩, hK.mono (fun _ _ x => x.elim .inl (fun y => .inr (.inr (.inl y))))⟩
    · intro j hj hj2
      rcases hN j hj with e | e
      · exact h.apart j e hj2
      · have := (h.reads.lt j hj2).2
        omega
    · exact fun x => x.elim h.n1 (map_not_row hD h.told)
    · exact fun x => x.elim h.n2 (map_not_row hE h.told)

end Go.Proofs.Ytedbdejhpjkofaa
