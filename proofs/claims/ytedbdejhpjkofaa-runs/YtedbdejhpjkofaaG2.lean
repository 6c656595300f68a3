import Derived.Test.YtedbdejhpjkofaaG1
namespace Go.Proofs.Ytedbdejhpjkofaa
open Go.RowKit Go.Maps
set_option linter.unusedVariables false
set_option linter.unusedSimpArgs false

set_option maxRecDepth 100000 in
set_option maxHeartbeats 1000000 in
theorem RunA_twice (s : ByteArray) (ao : Option Addr) (cap : Nat) (Ps : List (Int × Int)) (w : World) (hP : HoldsA w ao Ps) (hn : Ps.length ≤ 8796093021952) (ho : ¬ Hd.once Ps) :
    Calls Try.prog 15 #[.string s, .slice ao Ps.length cap] w fun e w' => e = .returned (.tuple #[.agg #[.int .i64 0, .slice none 0 0], .slice none 0 0, .int .i64 1]) ∧ Below w.heap.size w w' := by
  have hb := byKeyA_any ao cap Ps (w.alloc (.cells #[.int .i64 0, .slice none 0 0] 39)) (hP.alloc _) (by omega)
  have HO : Hid (¬ Hd.once Ps) := ho
  clear hP ho
  go_enter Try.func15, Try.ntmps15
  go_wp2_with fail
  refine hb.mono ?_
  rintro e w1 ⟨_, h2, hbl⟩
  obtain rfl := h2 HO.out
  have hres : w1.heap[w.heap.size]? = some (.cells #[.int .i64 0, .slice none 0 0] 39 (0, 0)) := by rw [hbl.block w.heap.size (by simp), heap_alloc_new]
  have c0 : w1.cell? ⟨w.heap.size, 0, none⟩ = some (.int .i64 0) := by rw [cell_of_row w1 w.heap.size 0 _ 39 (0, 0) hres]; rfl
  have c1 : w1.cell? ⟨w.heap.size, 1, none⟩ = some (.slice none 0 0) := by rw [cell_of_row w1 w.heap.size 1 _ 39 (0, 0) hres]; rfl
  have f0 : w1.frozen? ⟨w.heap.size, 0, none⟩ = false := by simp [World.frozen?, hres]
  have f1 : w1.frozen? ⟨w.heap.size, 1, none⟩ = false := by simp [World.frozen?, hres]
  obtain ⟨q0, q1⟩ := res_cells hres (.int .i64 0) (.slice none 0 0)
  have HB : Hid (Below w.heap.size w w1) := ((Below.refl _ w).alloc (Nat.le_refl _) _).trans (hbl.mono (by simp))
  clear hb h2 hbl hres
  go_wp2
  exact bodyPost_ret (v := .tuple #[.agg #[.int .i64 0, .slice none 0 0], .slice none 0 0, .int .i64 1]) (by simp [results, Try.results15, go_sem, q0, q1]) rfl ⟨rfl, (HB.out.setCell (p := ⟨w.heap.size, 0, none⟩) (Nat.le_refl _) _).setCell (p := ⟨w.heap.size, 1, none⟩) (Nat.le_refl _) _⟩

set_option maxRecDepth 100000 in
set_option maxHeartbeats 1000000 in
theorem RunA_no (s : ByteArray) (hs : s.size ≤ maxLen) (ao : Option Addr) (cap : Nat) (Ps : List (Int × Int)) (w : World) (hP : HoldsA w ao Ps) (hn : Ps.length ≤ 8796093021952) (ho : Hd.once Ps) (hp : Hd.prog s.data.toList = none) :
    Calls Try.prog 15 #[.string s, .slice ao Ps.length cap] w fun e w' => e = .returned (.tuple #[.agg #[.int .i64 0, .slice none 0 0], .slice none 0 0, .int .i64 2]) ∧ Below w.heap.size w w' := by
  have hb := byKeyA_any ao cap Ps (w.alloc (.cells #[.int .i64 0, .slice none 0 0] 39)) (hP.alloc _) (by omega)
  have hd := fun sv w => Execute_no s hs sv w hp
  have HO : Hid (Hd.once Ps) := ho
  clear hP ho hp
  go_enter Try.func15, Try.ntmps15
  go_wp2_with fail
  refine hb.mono ?_
  rintro e w1 ⟨h1, _, hbl⟩
  obtain ⟨rfl, _⟩ := h1 HO.out
  clear hb h1
  have e1 : (w.alloc (.cells #[.int .i64 0, .slice none 0 0] 39)).heap.size = w.heap.size + 1 := by simp
  rw [e1]
  go_wp2_with fail
  refine (hd _ _).mono ?_
  rintro e w2 ⟨rfl, hb2⟩
  have hres : w2.heap[w.heap.size]? = some (.cells #[.int .i64 0, .slice none 0 0] 39 (0, 0)) := by
    rw [hb2.block w.heap.size (by have := hbl.size; simp at this; omega), hbl.block w.heap.size (by simp), heap_alloc_new]
  have hlt2 : w.heap.size < w2.heap.size := (Array.getElem?_eq_some_iff.1 hres).1
  have c0 : w2.cell? ⟨w.heap.size, 0, none⟩ = some (.int .i64 0) := by rw [cell_of_row w2 w.heap.size 0 _ 39 (0, 0) hres]; rfl
  have c1 : w2.cell? ⟨w.heap.size, 1, none⟩ = some (.slice none 0 0) := by rw [cell_of_row w2 w.heap.size 1 _ 39 (0, 0) hres]; rfl
  have f0 : w2.frozen? ⟨w.heap.size, 0, none⟩ = false := by simp [World.frozen?, hres]
  have f1 : w2.frozen? ⟨w.heap.size, 1, none⟩ = false := by simp [World.frozen?, hres]
  obtain ⟨q0, q1⟩ := res_both hres (.int .i64 0) (.slice none 0 0)
  have HB : Hid (Below w.heap.size w w2) := (((Below.refl _ w).alloc (Nat.le_refl _) _).trans (hbl.mono (by simp))).trans (hb2.mono (by have := hbl.size; simp at this; omega))
  clear hb2 hbl hres hd
  go_wp2
  exact bodyPost_ret (v := .tuple #[.agg #[.int .i64 0, .slice none 0 0], .slice none 0 0, .int .i64 2]) (by simp [results, Try.results15, go_sem, q0, q1, hlt2]) rfl ⟨rfl, ((HB.out.setCell (p := ⟨w.heap.size, 0, none⟩) (Nat.le_refl _) _).setCell (p := ⟨w.heap.size, 1, none⟩) (Nat.le_refl _) _).alloc (by simp [World.setCell]; omega) _⟩

set_option maxRecDepth 100000 in
set_option maxHeartbeats 2000000 in
theorem RunA_yes (s : ByteArray) (hs : s.size ≤ maxLen) (ao : Option Addr) (cap : Nat) (Ps : List (Int × Int)) (w : World) (hP : HoldsA w ao Ps) (hn : Ps.length ≤ 8796093021952) (ho : Hd.once Ps) (ps : List Nat) (hp : Hd.prog s.data.toList = some ps) (S : Int → Option Int) (hS : S = Hd.ofPairs Ps) (Is : List Hd.Ins) (hI : Is = Hd.insAt s.data.toList ps) (st : Int) (sf : Hd.St) (hr : Hd.runAll S Is = (st, sf)) :
    Calls Try.prog 15 #[.string s, .slice ao Ps.length cap] w fun e w' => (∃ (tv v : Value) (ks : List Int), e = .returned (.tuple #[.agg #[.int .i64 st, tv], v, .int .i64 0]) ∧
      KeysOf (Hd.lookS S sf.W) ks ∧ w'.ownsRow w.heap.size 44 2 v ks.length (pairCells (standing (Hd.lookS S sf.W) ks)) ∧ w'.ownsRow w.heap.size 3 1 tv sf.T.length (sf.T.map (Value.int .i64)) ∧ ks.length ≤ Ps.length + 256 ∧ sf.T.length ≤ 256) ∧ Below w.heap.size w w' := by
  have hb := byKeyA_any ao cap Ps (w.alloc (.cells #[.int .i64 0, .slice none 0 0] 39)) (hP.alloc _) (by omega)
  have HO : Hid (Hd.once Ps) := ho
  have HWS : Hid (∀ k v, S k = some v → wf v) := by rw [hS]; exact wfA_of hP
  have HS : Hid (S = Hd.ofPairs Ps) := hS
  have hd : Hid (∀ (DS : DU) (W : World), ownI W (w.heap.size + 1) Ps.length DS → VI DS S → Calls Try.prog 23 #[.string s, .map (some (w.heap.size + 1))] W fun e w' => ∃ (tv rv : Value) (bw nW : Nat), e = .returned (.tuple #[.agg #[.int .i64 st, tv, rv, .map (some bw)], .bool true]) ∧ ExecEnd W st sf tv rv bw nW w') :=
    fun DS W hD vD => Execute_yes s hs _ _ DS S W hD vD HWS.out ps hp Is hI st sf hr
  clear hP ho hp hS hI hr
  go_enter Try.func15, Try.ntmps15
  go_wp2_with fail
  refine hb.mono ?_
  rintro e w1 ⟨h1, _, hbl⟩
  obtain ⟨rfl, DS, hDS, vDS⟩ := h1 HO.out
  clear hb h1
  have e1 : (w.alloc (.cells #[.int .i64 0, .slice none 0 0] 39)).heap.size = w.heap.size + 1 := by simp
  rw [e1] at hDS hbl ⊢
  rw [← HS.out] at vDS
  have hsz1 := hbl.size
  rw [e1] at hsz1
  have hlm : w.heap.size + 1 < w1.heap.size := World.ownsMap.lt hDS
  have hbw1 : Below w.heap.size w w1 := ((Below.refl _ w).alloc (Nat.le_refl _) _).trans (hbl.mono (by omega))
  have hres1 : w1.heap[w.heap.size]? = some (.cells #[.int .i64 0, .slice none 0 0] 39 (0, 0)) := by rw [hbl.block w.heap.size (by omega), heap_alloc_new]
  clear hbl
  go_wp2_with fail
  refine (hd.out DS _ hDS vDS).mono ?_
  rintro e w2 ⟨tv, rv, bw, nW, rfl, hx⟩
  clear hd
  have hb2 := hx.bel
  have hsz2 := hb2.size
  have hk2 : Keeps (fun _ => False) w1 w2 := Keeps.of_below hb2
  have hbw2 : Below w.heap.size w w2 := hbw1.trans (hb2.mono (by omega))
  have hDS2 : ownI w2 (w.heap.size + 1) Ps.length DS := ownI_keeps hDS hk2 (fun x => x)
  have hres2 := m_later hres1 hk2 (fun x => x)
  have hbwn := hx.new
  obtain ⟨E3, hE3, vE3⟩ := hx.wrt
  have hT3 := hx.few2
  have hfew := hx.few
  have hlw := World.ownsMap.lt hE3
  obtain ⟨aot, capt, rfl⟩ := own_form hx.told
  have HT2 : Hid (w2.ownsRow w1.heap.size 3 1 (.slice aot sf.T.length capt) sf.T.length (sf.T.map (Value.int .i64))) := hx.told
  obtain ⟨aor, capr, rfl⟩ := own_form hx.reads
  have hkB : Keeps (fun _ => False) w2 (w2.alloc (.cells #[.int .i64 st, .slice aot sf.T.length capt, .slice aor sf.R.length capr, .map (some bw)] 61)) := (Keeps.refl _ _).alloc _
  have hset := settle_any st (.slice aot sf.T.length capt) (.slice aor sf.R.length capr) (w.heap.size + 1) bw Ps.length nW DS E3 S sf.W (w2.alloc (.cells #[.int .i64 st, .slice aot sf.T.length capt, .slice aor sf.R.length capr, .map (some bw)] 61)) (by omega) (ownI_keeps hDS2 hkB (fun x => x)) vDS (ownC_keeps hE3 hkB (fun x => x)) vE3 (by omega) (by omega)
  have HRUN : Hid ((w2.alloc (.cells #[.int .i64 st, .slice aot sf.T.length capt, .slice aor sf.R.length capr, .map (some bw)] 61)).heap[w2.heap.size]? = some (.cells #[.int .i64 st, .slice aot sf.T.length capt, .slice aor sf.R.length capr, .map (some bw)] 61 (0, 0))) := heap_alloc_new w2 _
  have HR3 : Hid ((w2.alloc (.cells #[.int .i64 st, .slice aot sf.T.length capt, .slice aor sf.R.length capr, .map (some bw)] 61)).heap[w.heap.size]? = some (.cells #[.int .i64 0, .slice none 0 0] 39 (0, 0))) := m_later hres2 hkB (fun x => x)
  have HT3 : Hid _ := own_keeps HT2.out hkB (fun _ _ x => x)
  have HD3 : Hid _ := ownI_keeps hDS2 hkB (fun x => x)
  have HB3 : Hid (Below w.heap.size w (w2.alloc (.cells #[.int .i64 st, .slice aot sf.T.length capt, .slice aor sf.R.length capr, .map (some bw)] 61))) := hbw2.alloc (by omega) _
  clear hb2 hk2 hbw1 hDS hres1 hx hDS2 hres2 hE3 vE3 vDS HT2 hkB hbw2
  go_wp2_with fail
  refine hset.mono ?_
  rintro e w4 ⟨rfl, ⟨n4, D4, hn4, hD4, vD4⟩, hk5⟩
  have hM5 := m_later HRUN.out hk5 (by omega)
  obtain ⟨c0, c1, c2, c3, fz⟩ := four_cells hM5
  have hR5 := m_later HR3.out hk5 (by omega)
  have HR5 : Hid (w4.heap[w.heap.size]? = some (.cells #[.int .i64 0, .slice none 0 0] 39 (0, 0))) := hR5
  have HT5 : Hid _ := own_keeps HT3.out hk5 (fun k hk x => map_not_row HD3.out HT3.out (x ▸ hk))
  have hB4 : Below w.heap.size w w4 := HB3.out.trans (hk5.below (B := w.heap.size) (by simp; omega) (fun k h => by omega))
  have HB4 : Hid (Below w.heap.size w w4) := hB4
  have hsz4 := hB4.size
  have hbm4 : w2.heap.size < w4.heap.size := (Array.getElem?_eq_some_iff.1 hM5).1
  have HM5 : Hid (w4.heap[w2.heap.size]? = some (.cells #[.int .i64 st, .slice aot sf.T.length capt, .slice aor sf.R.length capr, .map (some bw)] 61 (0, 0))) := hM5
  have HIN : Hid (∀ W, W.heap = w4.heap → Calls Try.prog 25 #[.map (some (w.heap.size + 1))] W fun e w' => ∃ (ks : List Int) (v : Value), KeysOf (Hd.lookS S sf.W) ks ∧ e = .returned v ∧ w'.ownsRow W.heap.size 44 2 v ks.length (pairCells (standing (Hd.lookS S sf.W) ks)) ∧ ks.length ≤ n4 ∧ Below W.heap.size W w') := by
    intro W hW
    refine inOrder_any (w.heap.size + 1) n4 D4 _ W ?_ vD4 (by omega)
    obtain ⟨es, clock, hb, F, hs', hD⟩ := hD4
    exact ⟨es, clock, by rw [hW]; exact hb, F, hs', hD⟩
  clear hset hk5 hM5 hR5 HT3 HD3 HR3 hB4 hD4 vD4 HRUN HB3
  go_wp2
  have lat : ∀ w5, Below w4.heap.size w4 w5 → w5.cell? ⟨w2.heap.size, 0, none⟩ = some (.int .i64 st) ∧ w5.cell? ⟨w2.heap.size, 1, none⟩ = some (.slice aot sf.T.length capt) ∧ w5.cell? ⟨w.heap.size, 0, none⟩ = some (.int .i64 0) ∧ w5.cell? ⟨w.heap.size, 1, none⟩ = some (.slice none 0 0) ∧ w5.frozen? ⟨w.heap.size, 0, none⟩ = false ∧ w5.frozen? ⟨w.heap.size, 1, none⟩ = false := by
    intro w5 hb
    have hR := HR5.out
    have e0 := (hb.block w.heap.size (by omega)).trans hR
    refine ⟨(hb.cell (p := ⟨w2.heap.size, 0, none⟩) hbm4).trans c0, (hb.cell (p := ⟨w2.heap.size, 1, none⟩) hbm4).trans c1, ?_, ?_, ?_, ?_⟩
    · rw [cell_of_row w5 w.heap.size 0 _ 39 (0, 0) e0]; rfl
    · rw [cell_of_row w5 w.heap.size 1 _ 39 (0, 0) e0]; rfl
    · simp [World.frozen?, e0]
    · simp [World.frozen?, e0]
  have fin : ∀ (w5 : World) (ks : List Int) (v : Value), Below w4.heap.size w4 w5 → KeysOf (Hd.lookS S sf.W) ks → w5.ownsRow w4.heap.size 44 2 v ks.length (pairCells (standing (Hd.lookS S sf.W) ks)) → ks.length ≤ n4 →
      (∃ (tv v' : Value) (ks : List Int), Ending.returned (.tuple #[.agg #[.int .i64 st, .slice aot sf.T.length capt], v, .int .i64 0]) = .returned (.tuple #[.agg #[.int .i64 st, tv], v', .int .i64 0]) ∧
      KeysOf (Hd.lookS S sf.W) ks ∧ ((w5.setCell ⟨w.heap.size, 0, none⟩ (.int .i64 st)).setCell ⟨w.heap.size, 1, none⟩ (.slice aot sf.T.length capt)).ownsRow w.heap.size 44 2 v' ks.length (pairCells (standing (Hd.lookS S sf.W) ks)) ∧ ((w5.setCell ⟨w.heap.size, 0, none⟩ (.int .i64 st)).setCell ⟨w.heap.size, 1, none⟩ (.slice aot sf.T.length capt)).ownsRow w.heap.size 3 1 tv sf.T.length (sf.T.map (Value.int .i64)) ∧ ks.length ≤ Ps.length + 256 ∧ sf.T.length ≤ 256) ∧
      Below w.heap.size w ((w5.setCell ⟨w.heap.size, 0, none⟩ (.int .i64 st)).setCell ⟨w.heap.size, 1, none⟩ (.slice aot sf.T.length capt)) := by
    intro w5 ks v hb hks hv hkn
    refine ⟨⟨_, v, ks, rfl, hks, ?_, ?_, by omega, hT3⟩, ?_⟩
    · have hne := own_ge2 hv (B := w.heap.size) (by omega)
      exact own_mono (own_set (p := ⟨w.heap.size, 1, none⟩) (own_set (p := ⟨w.heap.size, 0, none⟩) hv hne _) hne _) (by omega)
    · have h5 := own_below HT5.out hb
      have hne := own_ge2 h5 (B := w.heap.size) (by omega)
      exact own_mono (own_set (p := ⟨w.heap.size, 1, none⟩) (own_set (p := ⟨w.heap.size, 0, none⟩) h5 hne _) hne _) (by omega)
    · exact ((HB4.out.trans (hb.mono (by omega))).setCell (p := ⟨w.heap.size, 0, none⟩) (Nat.le_refl _) _).setCell (p := ⟨w.heap.size, 1, none⟩) (Nat.le_refl _) _
  have res : ∀ w5, Below w4.heap.size w4 w5 → (w5.setCell ⟨w.heap.size, 0, none⟩ (.int .i64 st)).cell? ⟨w.heap.size, 0, none⟩ = some (.int .i64 st) ∧ ((w5.setCell ⟨w.heap.size, 0, none⟩ (.int .i64 st)).setCell ⟨w.heap.size, 1, none⟩ (.slice aot sf.T.length capt)).cell? ⟨w.heap.size, 1, none⟩ = some (.slice aot sf.T.length capt) := by
    intro w5 hb
    exact res_cells ((hb.block w.heap.size (by omega)).trans HR5.out) _ _
  go_region_with (go_at_call 25; refine (HIN.out _ ?_).mono ?_; (rfl); rintro e w5 ⟨ks, vl, hks, rfl, hvl, hkl, hb5⟩; obtain ⟨k0, k1, k2, k3, k4, k5⟩ := lat _ (undrew hb5); obtain ⟨vo5, vc5, rfl⟩ := own_form hvl)
  all_goals go_wp2
  all_goals
    obtain ⟨q0, q1⟩ := res _ (undrew hb5)
    refine bodyPost_ret (v := .tuple #[.agg #[.int .i64 st, .slice aot sf.T.length capt], .slice vo5 ks.length vc5, .int .i64 0]) (by simp [results, Try.results15, go_sem, q0, q1]) rfl ?_
    exact fin _ ks _ (undrew hb5) hks hvl hkl

end Go.Proofs.Ytedbdejhpjkofaa
