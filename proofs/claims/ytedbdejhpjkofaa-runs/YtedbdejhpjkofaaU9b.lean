import Derived.Test.YtedbdejhpjkofaaU9
namespace Go.Proofs.Ytedbdejhpjkofaa
open Go.RowKit Go.Maps
set_option linter.unusedVariables false
set_option linter.unusedSimpArgs false

theorem zeros_wf : ∀ a, a < 8 → wf (([0, 0, 0, 0, 0, 0, 0, 0] : List Int).getD a 0) := by
  intro a ha
  have : a = 0 ∨ a = 1 ∨ a = 2 ∨ a = 3 ∨ a = 4 ∨ a = 5 ∨ a = 6 ∨ a = 7 := by omega
  rcases this with rfl | rfl | rfl | rfl | rfl | rfl | rfl | rfl <;> exact wf_z

theorem res_four {W : World} {B t : Nat} {a b c d : Value} (h : W.heap[B]? = some (.cells #[a, b, c, d] t (0, 0))) (x0 x1 x2 x3 : Value) :
    ((((W.setCell ⟨B, 0, none⟩ x0).setCell ⟨B, 1, none⟩ x1).setCell ⟨B, 2, none⟩ x2).setCell ⟨B, 3, none⟩ x3).heap[B]? = some (.cells #[x0, x1, x2, x3] t (0, 0)) := by
  have h1 : (W.setCell ⟨B, 0, none⟩ x0).heap[B]? = some (.cells #[x0, b, c, d] t (0, 0)) := by rw [heap_setCell_same W B 0 _ t _ h]; rfl
  have h2 : ((W.setCell ⟨B, 0, none⟩ x0).setCell ⟨B, 1, none⟩ x1).heap[B]? = some (.cells #[x0, x1, c, d] t (0, 0)) := by rw [heap_setCell_same _ B 1 _ t _ h1]; rfl
  have h3 : (((W.setCell ⟨B, 0, none⟩ x0).setCell ⟨B, 1, none⟩ x1).setCell ⟨B, 2, none⟩ x2).heap[B]? = some (.cells #[x0, x1, x2, d] t (0, 0)) := by rw [heap_setCell_same _ B 2 _ t _ h2]; rfl
  rw [heap_setCell_same _ B 3 _ t _ h3]; rfl

theorem four_cells {W : World} {B t : Nat} {a b c d : Value} (h : W.heap[B]? = some (.cells #[a, b, c, d] t (0, 0))) :
    W.cell? ⟨B, 0, none⟩ = some a ∧ W.cell? ⟨B, 1, none⟩ = some b ∧ W.cell? ⟨B, 2, none⟩ = some c ∧ W.cell? ⟨B, 3, none⟩ = some d ∧ ∀ o, W.frozen? ⟨B, o, none⟩ = false := by
  refine ⟨?_, ?_, ?_, ?_, fun o => by simp [World.frozen?, h]⟩
  · rw [cell_of_row _ B 0 _ t (0, 0) h]; rfl
  · rw [cell_of_row _ B 1 _ t (0, 0) h]; rfl
  · rw [cell_of_row _ B 2 _ t (0, 0) h]; rfl
  · rw [cell_of_row _ B 3 _ t (0, 0) h]; rfl

theorem mstate {w : World} {bm : Nat} {rs : List Int} {snap wrt told rds : Value} (hM : w.heap[bm]? = some (.cells (mcells rs snap wrt told rds) 82 (0, 0))) (hr : rs.length = 8) : w.cell? ⟨bm, 9, none⟩ = some (.int .i64 0) := by
  rw [cell_of_row w bm 9 _ 82 (0, 0) hM]
  simp [mcells, List.getElem?_append_right, hr]
theorem mstate_set {w : World} {bm : Nat} {rs : List Int} {snap wrt told rds : Value} (hM : w.heap[bm]? = some (.cells (mcells rs snap wrt told rds) 82 (0, 0))) (hr : rs.length = 8) (v : Value) : (w.setCell ⟨bm, 9, none⟩ v).cell? ⟨bm, 9, none⟩ = some v := by
  have h := heap_setCell_same w bm 9 _ 82 v hM
  rw [cell_of_row _ bm 9 _ 82 (0, 0) h]
  simp [mcells, hr]

set_option maxRecDepth 100000 in
set_option maxHeartbeats 1000000 in
theorem Execute_no (s : ByteArray) (hs : s.size ≤ maxLen) (sv : Option Nat) (w : World) (hp : Hd.prog s.data.toList = none) :
    Calls Try.prog 23 #[.string s, .map sv] w fun e w' => e = .returned (.tuple #[.agg #[.int .i64 0, .slice none 0 0, .slice none 0 0, .map none], .bool false]) ∧ Below w.heap.size w w' := by
  have hd := decode_loop s (w.alloc (.cells #[.int .i64 0, .slice none 0 0, .slice none 0 0, .map none] 61)) hs
  have HP : Hid (Hd.prog s.data.toList = none) := hp
  clear hp
  go_enter Try.func23, Try.ntmps23
  go_wp2_with fail
  refine hd.mono ?_
  rintro e w2 ⟨⟨_, hno⟩, hb2⟩
  obtain rfl := hno HP.out
  have hres : w2.heap[w.heap.size]? = some (.cells #[.int .i64 0, .slice none 0 0, .slice none 0 0, .map none] 61 (0, 0)) := by
    rw [hb2.block w.heap.size (by simp), heap_alloc_new]
  obtain ⟨c0, c1, c2, c3, fz⟩ := four_cells hres
  have hfin := res_four hres (.int .i64 0) (.slice none 0 0) (.slice none 0 0) (.map none)
  obtain ⟨q0, q1, q2, q3, _⟩ := four_cells hfin
  have HB : Hid (Below w.heap.size w w2) := ((Below.refl _ w).alloc (Nat.le_refl _) _).trans (hb2.mono (by simp))
  clear hno hb2 hres hd hfin
  go_wp2
  exact bodyPost_ret (v := .tuple #[.agg #[.int .i64 0, .slice none 0 0, .slice none 0 0, .map none], .bool false]) (by simp [results, Try.results23, go_sem, q0, q1, q2, q3]) rfl ⟨rfl, (((HB.out.setCell (p := ⟨w.heap.size, 0, none⟩) (Nat.le_refl _) _).setCell (p := ⟨w.heap.size, 1, none⟩) (Nat.le_refl _) _).setCell (p := ⟨w.heap.size, 2, none⟩) (Nat.le_refl _) _).setCell (p := ⟨w.heap.size, 3, none⟩) (Nat.le_refl _) _⟩

/-- how Execute ends, of a code that is a procedure -/
structure ExecEnd (w : World) (st : Int) (sf : Hd.St) (tv rv : Value) (bw nW : Nat) (w' : World) : Prop where
  told : w'.ownsRow w.heap.size 3 1 tv sf.T.length (sf.T.map (Value.int .i64))
  reads : w'.ownsRow w.heap.size 3 1 rv sf.R.length (sf.R.map (Value.int .i64))
  apart : ∀ k, tv.ownBlock = some k → ¬ rv.ownBlock = some k
  wrt : ∃ E, ownC w' bw nW E ∧ VC E sf.W
  wfW : ∀ k v, sf.W k = some (some v) → wf v
  new : w.heap.size ≤ bw
  few : nW ≤ 256
  few2 : sf.T.length ≤ 256
  few3 : sf.R.length ≤ 256
  bel : Below w.heap.size w w'

set_option maxRecDepth 100000 in
set_option maxHeartbeats 2000000 in
theorem Execute_yes (s : ByteArray) (hs : s.size ≤ maxLen) (bs nS : Nat) (DS : DU) (S : Int → Option Int) (w : World) (hDS : ownI w bs nS DS) (vDS : VI DS S) (hwS : ∀ k v, S k = some v → wf v) (ps : List Nat) (hp : Hd.prog s.data.toList = some ps) (Is : List Hd.Ins) (hI : Is = Hd.insAt s.data.toList ps) (st : Int) (sf : Hd.St) (hr : Hd.runAll S Is = (st, sf)) :
    Calls Try.prog 23 #[.string s, .map (some bs)] w fun e w' => ∃ (tv rv : Value) (bw nW : Nat), e = .returned (.tuple #[.agg #[.int .i64 st, tv, rv, .map (some bw)], .bool true]) ∧ ExecEnd w st sf tv rv bw nW w' := by
  have hd := decode_loop s (w.alloc (.cells #[.int .i64 0, .slice none 0 0, .slice none 0 0, .map none] 61)) hs
  have hmm := run_makeMapC
  have HP : Hid (Hd.prog s.data.toList = some ps) := hp
  have HWS : Hid (∀ k v, S k = some v → wf v) := hwS
  have HG : Hid (Good Is) := by rw [hI]; exact good_of_prog hp
  have HI : Hid (Is = Hd.insAt s.data.toList ps) := hI
  have HR : Hid (Hd.runAll S Is = (st, sf)) := hr
  have HL : Hid (Is.length = ps.length) := by rw [hI]; exact insAt_len _ _
  have hlm := World.ownsMap.lt hDS
  clear hp hI hr hwS
  go_enter Try.func23, Try.ntmps23
  go_wp2_with fail
  refine hd.mono ?_
  rintro e w2 ⟨⟨hyes, _⟩, hb2⟩
  obtain ⟨v, rfl, hown⟩ := hyes _ HP.out
  clear hyes hd
  unfold listCells at hown
  rw [← HI.out, ← HL.out] at hown
  obtain ⟨ao2, cap2, rfl⟩ := own_form hown
  have hsz2 := hb2.size
  simp at hsz2
  have hbw2 : Below w.heap.size w w2 := ((Below.refl _ w).alloc (Nat.le_refl _) _).trans (hb2.mono (by simp))
  have hDS2 : ownI w2 bs nS DS := ownI_keeps hDS (S := fun _ => False) (Keeps.of_below hbw2) (fun x => x)
  have hres2 : w2.heap[w.heap.size]? = some (.cells #[.int .i64 0, .slice none 0 0, .slice none 0 0, .map none] 61 (0, 0)) := by
    rw [hb2.block w.heap.size (by simp), heap_alloc_new]
  clear hb2 hDS
  go_wp2_with fail
  have hM3 := new_at (w2.alloc (.map #[] 0)) (mcells [0, 0, 0, 0, 0, 0, 0, 0] (.map (some bs)) (.map (some w2.heap.size)) (.slice none 0 0) (.slice none 0 0)) 82 (w2.heap.size + 1) (by simp)
  have hk3 : Keeps (fun _ => False) w2 ((w2.alloc (.map #[] 0)).alloc (.cells (mcells [0, 0, 0, 0, 0, 0, 0, 0] (.map (some bs)) (.map (some w2.heap.size)) (.slice none 0 0) (.slice none 0 0)) 82)) := ((Keeps.refl _ _).alloc _).alloc _
  have hmach : Mach ((w2.alloc (.map #[] 0)).alloc (.cells (mcells [0, 0, 0, 0, 0, 0, 0, 0] (.map (some bs)) (.map (some w2.heap.size)) (.slice none 0 0) (.slice none 0 0)) 82)) ((w2.alloc (.map #[] 0)).alloc (.cells (mcells [0, 0, 0, 0, 0, 0, 0, 0] (.map (some bs)) (.map (some w2.heap.size)) (.slice none 0 0) (.slice none 0 0)) 82)).heap.size (w2.heap.size + 1) bs w2.heap.size nS 0 (.slice none 0 0) (.slice none 0 0) S ⟨[0, 0, 0, 0, 0, 0, 0, 0], fun _ => none, [], []⟩ :=
    ⟨rfl, zeros_wf, hM3, World.ownsRow_nil _ _ _ _, World.ownsRow_nil _ _ _ _, (fun k h => by simp [Value.ownBlock] at h), ⟨DS, ownI_keeps hDS2 hk3 (fun x => x), vDS⟩, ⟨_, World.ownsMap.alloc (World.ownsMap_made w2 Try.prog 3 RC) _, VC_empty⟩, HWS.out, (fun k v h => by cases h), by omega, by omega, by omega⟩
  have hrunc := run_own _ (w2.heap.size + 1) bs w2.heap.size nS _ cap2 ao2 S Is HG.out (own_keeps hown hk3 (fun _ _ x => x)) (by
    intro g hg
    subst hg
    have := (hown.lt g rfl).2
    omega) hmach
  refine hrunc.mono ?_
  rintro e w3 ⟨rfl, tv, rv, nW, hnW, hm3, hT3, hR3, hk4⟩
  rw [HR.out] at hm3 hT3 hR3 ⊢
  simp only at hm3 hT3 hR3 ⊢
  have hkw3 : Keeps (fun _ => False) w2 w3 := keeps_new hk3 hk4 (by omega)
  have hres3 := m_later hres2 hkw3 (fun x => x)
  have hs3 := hkw3.size
  have hlt3 : w2.heap.size + 1 < w3.heap.size := (Array.getElem?_eq_some_iff.1 hm3.blk).1
  have c9 := mstate hm3.blk hm3.len
  have c9s := mstate_set hm3.blk hm3.len (.int .i64 st)
  have c10 := mtold hm3.blk hm3.len
  have c11 := mrds hm3.blk hm3.len
  have c12 := mwrt hm3.blk hm3.len
  have f9 := mfree hm3.blk 9
  obtain ⟨r0, r1, r2, r3, rz⟩ := four_cells hres3
  obtain ⟨aot, capt, rfl⟩ := own_form hm3.told
  obtain ⟨aor, capr, rfl⟩ := own_form hm3.reads
  have hW9 : (w3.setCell ⟨w2.heap.size + 1, 9, none⟩ (.int .i64 st)).heap[w.heap.size]? = some (.cells #[.int .i64 0, .slice none 0 0, .slice none 0 0, .map none] 61 (0, 0)) := (Below.heap_setCell _ _ _ _ (by show w.heap.size ≠ w2.heap.size + 1; omega)).trans hres3
  have hfin := res_four hW9 (.int .i64 st) (.slice aot sf.T.length capt) (.slice aor sf.R.length capr) (.map (some w2.heap.size))
  obtain ⟨q0, q1, q2, q3, _⟩ := four_cells hfin
  have HEND : Hid (ExecEnd w st sf (.slice aot sf.T.length capt) (.slice aor sf.R.length capr) w2.heap.size nW (((((w3.setCell ⟨w2.heap.size + 1, 9, none⟩ (.int .i64 st)).setCell ⟨w.heap.size, 0, none⟩ (.int .i64 st)).setCell ⟨w.heap.size, 1, none⟩ (.slice aot sf.T.length capt)).setCell ⟨w.heap.size, 2, none⟩ (.slice aor sf.R.length capr)).setCell ⟨w.heap.size, 3, none⟩ (.map (some w2.heap.size)))) := by
    have hK : Keeps (fun k => k = w.heap.size ∨ k = w2.heap.size + 1) w3 (((((w3.setCell ⟨w2.heap.size + 1, 9, none⟩ (.int .i64 st)).setCell ⟨w.heap.size, 0, none⟩ (.int .i64 st)).setCell ⟨w.heap.size, 1, none⟩ (.slice aot sf.T.length capt)).setCell ⟨w.heap.size, 2, none⟩ (.slice aor sf.R.length capr)).setCell ⟨w.heap.size, 3, none⟩ (.map (some w2.heap.size))) :=
      (((((Keeps.refl _ w3).setCell (p := ⟨w2.heap.size + 1, 9, none⟩) (.inr (.inr rfl)) _).setCell (p := ⟨w.heap.size, 0, none⟩) (.inr (.inl rfl)) _).setCell (p := ⟨w.heap.size, 1, none⟩) (.inr (.inl rfl)) _).setCell (p := ⟨w.heap.size, 2, none⟩) (.inr (.inl rfl)) _).setCell (p := ⟨w.heap.size, 3, none⟩) (.inr (.inl rfl)) _
    obtain ⟨E3, hE3, vE3⟩ := hm3.wrt
    refine ⟨own_mono (own_keeps hm3.told hK ?_) (by simp; omega), own_mono (own_keeps hm3.reads hK ?_) (by simp; omega), hm3.apart, ⟨E3, ownC_keeps hE3 hK (by omega), vE3⟩, hm3.wfW, by omega, hnW, hT3, hR3, (hbw2.trans (hkw3.below (B := w.heap.size) (by omega) (fun _ h => h.elim))).trans (hK.below (B := w.heap.size) (by omega) (fun k h => by omega))⟩
    · intro k hk x
      have := own_ge hm3.told k hk
      simp at this
      omega
    · intro k hk x
      have := own_ge hm3.reads k hk
      simp at this
      omega
  clear hM3 hk3 hk4 hm3 hkw3 hres3 hres2 hown hrunc hmach hDS2 vDS hW9 hfin
  go_wp2
  exact bodyPost_ret (v := .tuple #[.agg #[.int .i64 st, .slice aot sf.T.length capt, .slice aor sf.R.length capr, .map (some w2.heap.size)], .bool true]) (by simp [results, Try.results23, go_sem, q0, q1, q2, q3]) rfl ⟨_, _, _, _, rfl, HEND.out⟩

end Go.Proofs.Ytedbdejhpjkofaa
