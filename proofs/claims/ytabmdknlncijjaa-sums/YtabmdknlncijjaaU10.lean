import Derived.Test.YtabmdknlncijjaaU9
namespace Go.Proofs.Ytabmdknlncijjaa
open Go.RowKit Go.Maps
set_option linter.unusedVariables false
set_option linter.unusedSimpArgs false

/-- what comes of a run: how it ended, what was told, what stands then -/
def outS (S : Int → Option Int) (Is : List Hd.Ins) : Int → Option Int := Hd.lookS S (Hd.runAll S Is).2.W

/-- how Run ends -/
structure RunsEnd (w : World) (L : List UInt8) (Ps : List (Int × Int)) (e : Ending) (w' : World) : Prop where
  below : Below w.heap.size w w'
  twice : ¬ Hd.once Ps → e = .returned (.tuple #[.agg #[.int .i64 0, .slice none 0 0], .slice none 0 0, .int .i64 1])
  no : Hd.once Ps → Hd.prog L = none → e = .returned (.tuple #[.agg #[.int .i64 0, .slice none 0 0], .slice none 0 0, .int .i64 2])
  yes : Hd.once Ps → ∀ ps, Hd.prog L = some ps → ∃ (tv v : Value) (ks : List Int), e = .returned (.tuple #[.agg #[.int .i64 (Hd.runAll (Hd.ofPairs Ps) (Hd.insAt L ps)).1, tv], v, .int .i64 0]) ∧
      KeysOf (outS (Hd.ofPairs Ps) (Hd.insAt L ps)) ks ∧ w'.ownsRow w.heap.size 44 2 v ks.length (pairCells (standing (outS (Hd.ofPairs Ps) (Hd.insAt L ps)) ks)) ∧
      w'.ownsRow w.heap.size 3 1 tv (Hd.runAll (Hd.ofPairs Ps) (Hd.insAt L ps)).2.T.length ((Hd.runAll (Hd.ofPairs Ps) (Hd.insAt L ps)).2.T.map (Value.int .i64)) ∧ ks.length ≤ Ps.length + 256 ∧ (Hd.runAll (Hd.ofPairs Ps) (Hd.insAt L ps)).2.T.length ≤ 256

theorem HoldsP.alloc {w : World} {ao : Option Addr} {Ps : List (Int × Int)} (h : HoldsP w ao Ps) (o : Obj) : HoldsP (w.alloc o) ao Ps := by
  intro i hi
  obtain ⟨g, h1, h2, h3, h4, h5⟩ := h i hi
  have e : ∀ x, (w.alloc o).cell? ⟨g, x, none⟩ = w.cell? ⟨g, x, none⟩ := fun x => World.cell?_of_block (a := ⟨g, x, none⟩) (Below.heap_alloc w o g h2)
  exact ⟨g, h1, by simp; omega, (e _).trans h3, (e _).trans h4, h5⟩

theorem wfS_of {w : World} {ao : Option Addr} {Ps : List (Int × Int)} (h : HoldsP w ao Ps) : ∀ k v, Hd.ofPairs Ps k = some v → wf v := by
  intro k v hk
  unfold Hd.ofPairs at hk
  rw [Option.map_eq_some_iff] at hk
  obtain ⟨p, hp, rfl⟩ := hk
  have hm := List.mem_of_find?_eq_some hp
  obtain ⟨i, hi, rfl⟩ := List.getElem_of_mem hm
  obtain ⟨g, _, _, _, _, _, h2⟩ := h i hi
  exact h2

set_option maxRecDepth 100000 in
set_option maxHeartbeats 1000000 in
theorem Run_twice (s : ByteArray) (ao : Option Addr) (cap : Nat) (Ps : List (Int × Int)) (w : World) (hP : HoldsP w ao Ps) (hn : Ps.length ≤ 8796093021952) (ho : ¬ Hd.once Ps) :
    Calls Try.prog 15 #[.string s, .slice ao Ps.length cap] w fun e w' => e = .returned (.tuple #[.agg #[.int .i64 0, .slice none 0 0], .slice none 0 0, .int .i64 1]) ∧ Below w.heap.size w w' := by
  have hb := byKey_any ao cap Ps (w.alloc (.cells #[.int .i64 0, .slice none 0 0] 39)) (hP.alloc _) (by omega)
  have HO : Hid (¬ Hd.once Ps) := ho
  clear hP ho
  go_enter Try.func15, Try.ntmps15
  go_wp2_with fail
  refine hb.mono ?_
  rintro e w1 ⟨_, h2, hbl⟩
  obtain rfl := h2 HO.out
  have hres : w1.heap[w.heap.size]? = some (.cells #[.int .i64 0, .slice none 0 0] 39 (0, 0)) := by rw [hbl.block w.heap.size (by simp), heap_alloc_new]
  have c0 : w1.cell? ⟨w.heap.size, 0, none⟩ = some (.int .i64 0) := by rw [cell_of_row w1 w.heap.size 0 _ 39 (0, 0) hres]; rfl
  have c1 : w1.cell? ⟨w.heap.size, 1, none⟩ = some (.slice none 0 0) := by rw [cell_of_row w1 w.heap.size 1 _ 39 (0, 0) hres]; rfl
  have f0 : w1.frozen? ⟨w.heap.size, 0, none⟩ = false := by simp [World.frozen?, hres]
  have f1 : w1.frozen? ⟨w.heap.size, 1, none⟩ = false := by simp [World.frozen?, hres]
  obtain ⟨q0, q1⟩ := res_cells hres (.int .i64 0) (.slice none 0 0)
  have HB : Hid (Below w.heap.size w w1) := ((Below.refl _ w).alloc (Nat.le_refl _) _).trans (hbl.mono (by simp))
  clear hb h2 hbl hres
  go_wp2
  exact bodyPost_ret (v := .tuple #[.agg #[.int .i64 0, .slice none 0 0], .slice none 0 0, .int .i64 1]) (by simp [results, Try.results15, go_sem, q0, q1]) rfl ⟨rfl, (HB.out.setCell (p := ⟨w.heap.size, 0, none⟩) (Nat.le_refl _) _).setCell (p := ⟨w.heap.size, 1, none⟩) (Nat.le_refl _) _⟩

set_option maxRecDepth 100000 in
set_option maxHeartbeats 1000000 in
theorem Run_no (s : ByteArray) (hs : s.size ≤ maxLen) (ao : Option Addr) (cap : Nat) (Ps : List (Int × Int)) (w : World) (hP : HoldsP w ao Ps) (hn : Ps.length ≤ 8796093021952) (ho : Hd.once Ps) (hp : Hd.prog s.data.toList = none) :
    Calls Try.prog 15 #[.string s, .slice ao Ps.length cap] w fun e w' => e = .returned (.tuple #[.agg #[.int .i64 0, .slice none 0 0], .slice none 0 0, .int .i64 2]) ∧ Below w.heap.size w w' := by
  have hb := byKey_any ao cap Ps (w.alloc (.cells #[.int .i64 0, .slice none 0 0] 39)) (hP.alloc _) (by omega)
  have hd := fun w => decode_loop s w hs
  have HO : Hid (Hd.once Ps) := ho
  have HP : Hid (Hd.prog s.data.toList = none) := hp
  clear hP ho hp
  go_enter Try.func15, Try.ntmps15
  go_wp2_with fail
  refine hb.mono ?_
  rintro e w1 ⟨h1, _, hbl⟩
  obtain ⟨rfl, _⟩ := h1 HO.out
  clear hb h1
  have e1 : (w.alloc (.cells #[.int .i64 0, .slice none 0 0] 39)).heap.size = w.heap.size + 1 := by simp
  rw [e1]
  go_wp2_with fail
  refine (hd _).mono ?_
  rintro e w2 ⟨⟨_, hno⟩, hb2⟩
  obtain rfl := hno HP.out
  have hres : w2.heap[w.heap.size]? = some (.cells #[.int .i64 0, .slice none 0 0] 39 (0, 0)) := by
    rw [hb2.block w.heap.size (by have := hbl.size; simp at this; omega), hbl.block w.heap.size (by simp), heap_alloc_new]
  have c0 : w2.cell? ⟨w.heap.size, 0, none⟩ = some (.int .i64 0) := by rw [cell_of_row w2 w.heap.size 0 _ 39 (0, 0) hres]; rfl
  have c1 : w2.cell? ⟨w.heap.size, 1, none⟩ = some (.slice none 0 0) := by rw [cell_of_row w2 w.heap.size 1 _ 39 (0, 0) hres]; rfl
  have f0 : w2.frozen? ⟨w.heap.size, 0, none⟩ = false := by simp [World.frozen?, hres]
  have f1 : w2.frozen? ⟨w.heap.size, 1, none⟩ = false := by simp [World.frozen?, hres]
  obtain ⟨q0, q1⟩ := res_cells hres (.int .i64 0) (.slice none 0 0)
  have HB : Hid (Below w.heap.size w w2) := (((Below.refl _ w).alloc (Nat.le_refl _) _).trans (hbl.mono (by simp))).trans (hb2.mono (by have := hbl.size; simp at this; omega))
  clear hno hb2 hbl hres hd
  go_wp2
  exact bodyPost_ret (v := .tuple #[.agg #[.int .i64 0, .slice none 0 0], .slice none 0 0, .int .i64 2]) (by simp [results, Try.results15, go_sem, q0, q1]) rfl ⟨rfl, (HB.out.setCell (p := ⟨w.heap.size, 0, none⟩) (Nat.le_refl _) _).setCell (p := ⟨w.heap.size, 1, none⟩) (Nat.le_refl _) _⟩

theorem zeros_wf : ∀ a, a < 8 → wf (([0, 0, 0, 0, 0, 0, 0, 0] : List Int).getD a 0) := by
  intro a ha
  have : a = 0 ∨ a = 1 ∨ a = 2 ∨ a = 3 ∨ a = 4 ∨ a = 5 ∨ a = 6 ∨ a = 7 := by omega
  rcases this with rfl | rfl | rfl | rfl | rfl | rfl | rfl | rfl <;> exact wf_z

set_option maxRecDepth 100000 in
set_option maxHeartbeats 2000000 in
theorem Run_yes (s : ByteArray) (hs : s.size ≤ maxLen) (ao : Option Addr) (cap : Nat) (Ps : List (Int × Int)) (w : World) (hP : HoldsP w ao Ps) (hn : Ps.length ≤ 8796093021952) (ho : Hd.once Ps) (ps : List Nat) (hp : Hd.prog s.data.toList = some ps) (S : Int → Option Int) (hS : S = Hd.ofPairs Ps) (Is : List Hd.Ins) (hI : Is = Hd.insAt s.data.toList ps) (st : Int) (sf : Hd.St) (hr : Hd.runAll S Is = (st, sf)) :
    Calls Try.prog 15 #[.string s, .slice ao Ps.length cap] w fun e w' => (∃ (tv v : Value) (ks : List Int), e = .returned (.tuple #[.agg #[.int .i64 st, tv], v, .int .i64 0]) ∧
      KeysOf (Hd.lookS S sf.W) ks ∧ w'.ownsRow w.heap.size 44 2 v ks.length (pairCells (standing (Hd.lookS S sf.W) ks)) ∧ w'.ownsRow w.heap.size 3 1 tv sf.T.length (sf.T.map (Value.int .i64)) ∧ ks.length ≤ Ps.length + 256 ∧ sf.T.length ≤ 256) ∧ Below w.heap.size w w' := by
  have hb := byKey_any ao cap Ps (w.alloc (.cells #[.int .i64 0, .slice none 0 0] 39)) (hP.alloc _) (by omega)
  have hd := fun w => decode_loop s w hs
  have hmm := @run_makeMap Try.prog
  have HO : Hid (Hd.once Ps) := ho
  have HP : Hid (Hd.prog s.data.toList = some ps) := hp
  have HWS : Hid (∀ k v, S k = some v → wf v) := by rw [hS]; exact wfS_of hP
  have HG : Hid (Good Is) := by rw [hI]; exact good_of_prog hp
  have HI : Hid (Is = Hd.insAt s.data.toList ps) := hI
  have HS : Hid (S = Hd.ofPairs Ps) := hS
  have HR : Hid (Hd.runAll S Is = (st, sf)) := hr
  have HL : Hid (Is.length = ps.length) := by rw [hI]; exact insAt_len _ _
  clear hP ho hp hS hI hr
  go_enter Try.func15, Try.ntmps15
  go_wp2_with fail
  refine hb.mono ?_
  rintro e w1 ⟨h1, _, hbl⟩
  obtain ⟨rfl, DS, hDS, vDS⟩ := h1 HO.out
  clear hb h1
  have e1 : (w.alloc (.cells #[.int .i64 0, .slice none 0 0] 39)).heap.size = w.heap.size + 1 := by simp
  rw [e1] at hDS hbl ⊢
  rw [← HS.out] at vDS
  have hsz1 := hbl.size
  rw [e1] at hsz1
  have hlm : w.heap.size + 1 < w1.heap.size := World.ownsMap.lt hDS
  have hbw1 : Below w.heap.size w w1 := ((Below.refl _ w).alloc (Nat.le_refl _) _).trans (hbl.mono (by omega))
  have hres1 : w1.heap[w.heap.size]? = some (.cells #[.int .i64 0, .slice none 0 0] 39 (0, 0)) := by rw [hbl.block w.heap.size (by omega), heap_alloc_new]
  clear hbl
  go_wp2_with fail
  refine (hd _).mono ?_
  rintro e w2 ⟨⟨hyes, _⟩, hb2⟩
  obtain ⟨v, rfl, hown⟩ := hyes _ HP.out
  clear hyes hd
  unfold listCells at hown
  rw [← HI.out, ← HL.out] at hown
  obtain ⟨ao2, cap2, rfl⟩ := own_form hown
  have hsz2 := hb2.size
  have hk2 : Keeps (fun _ => False) w1 w2 := Keeps.of_below hb2
  have hbw2 : Below w.heap.size w w2 := hbw1.trans (hb2.mono (by omega))
  have hDS2 : ownI w2 (w.heap.size + 1) Ps.length DS := ownI_keeps hDS hk2 (fun x => x)
  have hres2 := m_later hres1 hk2 (fun x => x)
  clear hb2 hk2 hbw1 hDS hres1
  go_wp2_with fail
  have hM3 := new_at (w2.alloc (.map #[] 0)) (mcells [0, 0, 0, 0, 0, 0, 0, 0] (.map (some (w.heap.size + 1))) (.map (some w2.heap.size)) (.slice none 0 0)) 64 (w2.heap.size + 1) (by simp)
  have hk3 : Keeps (fun _ => False) w2 ((w2.alloc (.map #[] 0)).alloc (.cells (mcells [0, 0, 0, 0, 0, 0, 0, 0] (.map (some (w.heap.size + 1))) (.map (some w2.heap.size)) (.slice none 0 0)) 64)) := ((Keeps.refl _ _).alloc _).alloc _
  have hmach : Mach ((w2.alloc (.map #[] 0)).alloc (.cells (mcells [0, 0, 0, 0, 0, 0, 0, 0] (.map (some (w.heap.size + 1))) (.map (some w2.heap.size)) (.slice none 0 0)) 64)) ((w2.alloc (.map #[] 0)).alloc (.cells (mcells [0, 0, 0, 0, 0, 0, 0, 0] (.map (some (w.heap.size + 1))) (.map (some w2.heap.size)) (.slice none 0 0)) 64)).heap.size (w2.heap.size + 1) (w.heap.size + 1) w2.heap.size Ps.length 0 (.slice none 0 0) S ⟨[0, 0, 0, 0, 0, 0, 0, 0], fun _ => none, []⟩ :=
    ⟨rfl, zeros_wf, hM3, World.ownsRow_nil _ _ _ _, ⟨DS, ownI_keeps hDS2 hk3 (fun x => x), vDS⟩, ⟨_, World.ownsMap.alloc (World.ownsMap_made w2 Try.prog 3 RC) _, VC_empty⟩, HWS.out, (fun k v h => by cases h), by omega, by omega, by omega⟩
  have hrunc := run_own _ (w2.heap.size + 1) (w.heap.size + 1) w2.heap.size Ps.length _ cap2 ao2 S Is HG.out (own_keeps hown hk3 (fun _ _ x => x)) (by
    intro g hg
    subst hg
    have := (hown.lt g rfl).2
    omega) hmach
  refine hrunc.mono ?_
  rintro e w3 ⟨rfl, tv, nW, hnW, hm3, hT3, hk4⟩
  rw [HR.out] at hm3 hT3 ⊢
  simp only at hm3 hT3 ⊢
  have hkw3 : Keeps (fun _ => False) w2 w3 := keeps_new hk3 hk4 (by omega)
  have hres3 := m_later hres2 hkw3 (fun x => x)
  have hs3 := hkw3.size
  obtain ⟨D3, hD3, vD3⟩ := hm3.snap
  obtain ⟨E3, hE3, vE3⟩ := hm3.wrt
  have hset := settle_any (w.heap.size + 1) w2.heap.size Ps.length nW D3 E3 S sf.W w3 (by omega) hD3 vD3 hE3 vE3 (by omega) (by omega)
  have c9 := mwrt hm3.blk hm3.len
  have HM3 : Hid (w3.heap[w2.heap.size + 1]? = some (.cells (mcells sf.rs (.map (some (w.heap.size + 1))) (.map (some w2.heap.size)) tv) 64 (0, 0))) := hm3.blk
  have HLEN : Hid (sf.rs.length = 8) := hm3.len
  have HT3 : Hid (w3.ownsRow ((w2.alloc (.map #[] 0)).alloc (.cells (mcells [0, 0, 0, 0, 0, 0, 0, 0] (.map (some (w.heap.size + 1))) (.map (some w2.heap.size)) (.slice none 0 0)) 64)).heap.size 3 1 tv sf.T.length (sf.T.map (Value.int .i64))) := hm3.told
  have HD3 : Hid (ownI w3 (w.heap.size + 1) Ps.length D3) := hD3
  have HK3 : Hid (Keeps (fun _ => False) w2 w3) := hkw3
  have HR3 : Hid (w3.heap[w.heap.size]? = some (.cells #[.int .i64 0, .slice none 0 0] 39 (0, 0))) := hres3
  clear hM3 hk3 hk4 hm3 hkw3 hres3 hres2 hown hrunc hmach hDS2 vDS hD3 vD3 hE3 vE3
  go_wp2_with fail
  refine hset.mono ?_
  rintro e w4 ⟨rfl, ⟨n4, D4, hn4, hD4, vD4⟩, hk5⟩
  have hM5 := m_later HM3.out hk5 (by omega)
  have c10 := mtold hM5 HLEN.out
  have hR5 := m_later HR3.out hk5 (by omega)
  have HR5 : Hid (w4.heap[w.heap.size]? = some (.cells #[.int .i64 0, .slice none 0 0] 39 (0, 0))) := hR5
  have HT5 : Hid _ := own_keeps HT3.out hk5 (fun k hk x => map_not_row HD3.out HT3.out (x ▸ hk))
  have hB4 : Below w.heap.size w w4 := (hbw2.trans (HK3.out.below (B := w.heap.size) (by omega) (fun _ h => h.elim))).trans (hk5.below (B := w.heap.size) (by omega) (fun k h => by omega))
  have HB4 : Hid (Below w.heap.size w w4) := hB4
  have hsz4 := hB4.size
  have hbm4 : w2.heap.size + 1 < w4.heap.size := (Array.getElem?_eq_some_iff.1 hM5).1
  have HIN : Hid (∀ W, W.heap = w4.heap → Calls Try.prog 25 #[.map (some (w.heap.size + 1))] W fun e w' => ∃ (ks : List Int) (v : Value), KeysOf (Hd.lookS S sf.W) ks ∧ e = .returned v ∧ w'.ownsRow W.heap.size 44 2 v ks.length (pairCells (standing (Hd.lookS S sf.W) ks)) ∧ ks.length ≤ n4 ∧ Below W.heap.size W w') := by
    intro W hW
    refine inOrder_any (w.heap.size + 1) n4 D4 _ W ?_ vD4 (by omega)
    obtain ⟨es, clock, hb, F, hs', hD⟩ := hD4
    exact ⟨es, clock, by rw [hW]; exact hb, F, hs', hD⟩
  obtain ⟨aot, capt, rfl⟩ := own_form HT5.out
  clear hset hk5 hM5 hR5 c9 HM3 HT3 HD3 HK3 HR3 hB4 hD4 vD4
  go_wp2
  have lat : ∀ w5, Below w4.heap.size w4 w5 → w5.cell? ⟨w2.heap.size + 1, 10, none⟩ = some (.slice aot sf.T.length capt) ∧ w5.cell? ⟨w.heap.size, 0, none⟩ = some (.int .i64 0) ∧ w5.cell? ⟨w.heap.size, 1, none⟩ = some (.slice none 0 0) ∧ w5.frozen? ⟨w.heap.size, 0, none⟩ = false ∧ w5.frozen? ⟨w.heap.size, 1, none⟩ = false := by
    intro w5 hb
    have hR := HR5.out
    have e0 := (hb.block w.heap.size (by omega)).trans hR
    refine ⟨(hb.cell (p := ⟨w2.heap.size + 1, 10, none⟩) hbm4).trans c10, ?_, ?_, ?_, ?_⟩
    · rw [cell_of_row w5 w.heap.size 0 _ 39 (0, 0) e0]; rfl
    · rw [cell_of_row w5 w.heap.size 1 _ 39 (0, 0) e0]; rfl
    · simp [World.frozen?, e0]
    · simp [World.frozen?, e0]
  have fin : ∀ (w5 : World) (ks : List Int) (v : Value), Below w4.heap.size w4 w5 → KeysOf (Hd.lookS S sf.W) ks → w5.ownsRow w4.heap.size 44 2 v ks.length (pairCells (standing (Hd.lookS S sf.W) ks)) → ks.length ≤ n4 →
      (∃ (tv v' : Value) (ks : List Int), Ending.returned (.tuple #[.agg #[.int .i64 st, .slice aot sf.T.length capt], v, .int .i64 0]) = .returned (.tuple #[.agg #[.int .i64 st, tv], v', .int .i64 0]) ∧
      KeysOf (Hd.lookS S sf.W) ks ∧ ((w5.setCell ⟨w.heap.size, 0, none⟩ (.int .i64 st)).setCell ⟨w.heap.size, 1, none⟩ (.slice aot sf.T.length capt)).ownsRow w.heap.size 44 2 v' ks.length (pairCells (standing (Hd.lookS S sf.W) ks)) ∧ ((w5.setCell ⟨w.heap.size, 0, none⟩ (.int .i64 st)).setCell ⟨w.heap.size, 1, none⟩ (.slice aot sf.T.length capt)).ownsRow w.heap.size 3 1 tv sf.T.length (sf.T.map (Value.int .i64)) ∧ ks.length ≤ Ps.length + 256 ∧ sf.T.length ≤ 256) ∧
      Below w.heap.size w ((w5.setCell ⟨w.heap.size, 0, none⟩ (.int .i64 st)).setCell ⟨w.heap.size, 1, none⟩ (.slice aot sf.T.length capt)) := by
    intro w5 ks v hb hks hv hkn
    refine ⟨⟨_, v, ks, rfl, hks, ?_, ?_, by omega, hT3⟩, ?_⟩
    · have hne := own_ge2 hv (B := w.heap.size) (by omega)
      exact own_mono (own_set (p := ⟨w.heap.size, 1, none⟩) (own_set (p := ⟨w.heap.size, 0, none⟩) hv hne _) hne _) (by omega)
    · have h5 := own_below HT5.out hb
      have hne := own_ge2 h5 (B := w.heap.size) (by simp; omega)
      exact own_mono (own_set (p := ⟨w.heap.size, 1, none⟩) (own_set (p := ⟨w.heap.size, 0, none⟩) h5 hne _) hne _) (by simp; omega)
    · exact ((HB4.out.trans (hb.mono (by omega))).setCell (p := ⟨w.heap.size, 0, none⟩) (Nat.le_refl _) _).setCell (p := ⟨w.heap.size, 1, none⟩) (Nat.le_refl _) _
  have res : ∀ w5, Below w4.heap.size w4 w5 → (w5.setCell ⟨w.heap.size, 0, none⟩ (.int .i64 st)).cell? ⟨w.heap.size, 0, none⟩ = some (.int .i64 st) ∧ ((w5.setCell ⟨w.heap.size, 0, none⟩ (.int .i64 st)).setCell ⟨w.heap.size, 1, none⟩ (.slice aot sf.T.length capt)).cell? ⟨w.heap.size, 1, none⟩ = some (.slice aot sf.T.length capt) := by
    intro w5 hb
    exact res_cells ((hb.block w.heap.size (by omega)).trans HR5.out) _ _
  go_region_with (go_at_call 25; refine (HIN.out _ ?_).mono ?_; (rfl); rintro e w5 ⟨ks, vl, hks, rfl, hvl, hkl, hb5⟩; obtain ⟨k1, k2, k3, k4, k5⟩ := lat _ (undrew hb5); obtain ⟨vo5, vc5, rfl⟩ := own_form hvl)
  all_goals go_wp2
  all_goals
    obtain ⟨q0, q1⟩ := res _ (undrew hb5)
    refine bodyPost_ret (v := .tuple #[.agg #[.int .i64 st, .slice aot sf.T.length capt], .slice vo5 ks.length vc5, .int .i64 0]) (by simp [results, Try.results15, go_sem, q0, q1]) rfl ?_
    exact fin _ ks _ (undrew hb5) hks hvl hkl

end Go.Proofs.Ytabmdknlncijjaa
