import Derived.Test.YtabmdknlncijjaaV3
namespace Go.Proofs.Ytabmdknlncijjaa
open Go.RowKit Go.Maps
set_option linter.unusedVariables false
set_option linter.unusedSimpArgs false

def five5 : List Hd.Ins := [⟨1, 0, 0, 0, 5⟩, ⟨10, 0, 0, 0, 0⟩]

theorem holds_keeps {w w' : World} {g : Nat} {Is : List Hd.Ins} {S : Nat → Prop} (h : HoldsI w g Is) (hk : Keeps S w w') (hg : g < w.heap.size) (hs : ¬ S g) : HoldsI w' g Is := by
  intro i hi
  obtain ⟨c0, c1, c2, c3, c4⟩ := h i hi
  have e : ∀ o, w'.cell? ⟨g, o, none⟩ = w.cell? ⟨g, o, none⟩ := fun o => World.cell?_of_block (a := ⟨g, o, none⟩) (hk.block g hg hs)
  exact ⟨(e _).trans c0, (e _).trans c1, (e _).trans c2, (e _).trans c3, (e _).trans c4⟩

theorem wrap5 : wrap64 5 = 5 := by unfold wrap64; omega

set_option maxRecDepth 100000 in
set_option maxHeartbeats 1000000 in
theorem run_five (bm g cap : Nat) (snap wrt : Value) (w : World) (hg : g < w.heap.size) (hne : g ≠ bm) (hM : w.heap[bm]? = some (.cells (mcells [0, 0, 0, 0, 0, 0, 0, 0] snap wrt (.slice none 0 0)) 64 (0, 0))) (hH : HoldsI w g five5) :
    Calls Try.prog 23 #[.pointer (some ⟨bm, 0, none⟩), .slice (some ⟨g, 0, none⟩) 2 cap] w fun e w' => e = .returned (.int .i64 2) ∧
      ∃ rs told', w'.heap[bm]? = some (.cells (mcells rs snap wrt told') 64 (0, 0)) ∧ rs.length = 8 ∧ w'.ownsRow w.heap.size 3 1 told' 1 [.int .i64 5] ∧ Keeps (· = bm) w w' := by
  obtain ⟨c0, c1, c2, c3, c4⟩ := hH 0 (by decide)
  simp [five5] at c0 c1 c2 c3 c4
  have HM : Hid (w.heap[bm]? = some (.cells (mcells [0, 0, 0, 0, 0, 0, 0, 0] snap wrt (.slice none 0 0)) 64 (0, 0))) := hM
  have HH : Hid (HoldsI w g five5) := hH
  clear hM hH
  go_enter Try.func23, Try.ntmps23
  go_wp2
  refine wp_loop_rounds 3 ?_
  rw [rounds_succ]
  go_wp2_with fail
  have hk0 : Keeps (· = bm) w (w.alloc (.cells #[.int .u8 1, .int .u8 0, .int .u8 0, .int .u8 0, .int .i64 (wrap64 5)] 70)) := (Keeps.refl _ _).alloc _
  have hM0 : (w.alloc (.cells #[.int .u8 1, .int .u8 0, .int .u8 0, .int .u8 0, .int .i64 (wrap64 5)] 70)).heap[bm]? = some (.cells (mcells [0, 0, 0, 0, 0, 0, 0, 0] snap wrt (.slice none 0 0)) 64 (0, 0)) :=
    m_later (S := fun _ => False) HM.out ((Keeps.refl _ _).alloc _) (fun h => h)
  refine (do_const bm _ snap wrt _ 0 0 0 _ _ (by decide) (by decide) (by decide) (by rfl) hM0).mono ?_
  rintro e w1 ⟨rfl, hM1, hk1⟩
  rw [wrap5] at hM1
  have HM1 : Hid (w1.heap[bm]? = some (.cells (mcells [5, 0, 0, 0, 0, 0, 0, 0] snap wrt (.slice none 0 0)) 64 (0, 0))) := hM1
  have hkk : Keeps (· = bm) w w1 := hk0.trans hk1
  have HK : Hid (Keeps (· = bm) w w1) := hkk
  obtain ⟨d0, d1, d2, d3, d4⟩ := holds_keeps HH.out hkk hg hne 1 (by decide)
  simp [five5] at d0 d1 d2 d3 d4
  have hgz : g < w1.heap.size := Nat.lt_of_lt_of_le hg hkk.size
  clear hk0 hM0 hM1 hk1 hkk c0 c1 c2 c3 c4
  go_wp2
  rw [rounds_succ]
  go_wp2_with fail
  have hM2 : (w1.alloc (.cells #[.int .u8 10, .int .u8 0, .int .u8 0, .int .u8 0, .int .i64 (wrap64 0)] 70)).heap[bm]? = some (.cells (mcells [5, 0, 0, 0, 0, 0, 0, 0] snap wrt (.slice none 0 0)) 64 (0, 0)) :=
    m_later (S := fun _ => False) HM1.out ((Keeps.refl _ _).alloc _) (fun h => h)
  refine (do_emit w.heap.size bm _ snap wrt _ 0 [] 0 0 0 _ _ (by decide) (by decide) (by decide) (by rfl) (by decide) hM2 (World.ownsRow_nil _ _ _ _) (by have := HK.out.size; simp; omega)).mono ?_
  rintro e w2 ⟨rfl, told', hM3, hown3, hk3⟩
  have HM3 : Hid (w2.heap[bm]? = some (.cells (mcells [5, 0, 0, 0, 0, 0, 0, 0] snap wrt told') 64 (0, 0))) := hM3
  have HO : Hid (w2.ownsRow w.heap.size 3 1 told' 1 [.int .i64 5]) := hown3
  have HK2 : Hid (Keeps (· = bm) w w2) := by
    have e1 : Keeps (· = bm) w (w1.alloc (.cells #[.int .u8 10, .int .u8 0, .int .u8 0, .int .u8 0, .int .i64 (wrap64 0)] 70)) := HK.out.alloc _
    exact e1.trans (hk3.mono (fun k _ h => by rcases h with h | h; · exact h
                                              · simp [Value.ownBlock] at h))
  clear hM2 hM3 hown3 hk3 d0 d1 d2 d3 d4
  go_wp2
  rw [rounds_succ]
  go_wp2
  go_ret
  exact ⟨rfl, _, told', HM3.out, rfl, HO.out, HK2.out⟩

def fiveS : ByteArray := ⟨#[1, 0, 0, 0, 0, 0, 0, 0, 0, 5, 10, 0]⟩

theorem prog_five : Hd.prog fiveS.data.toList = some [0, 10] := by decide +kernel
theorem ins_five : Hd.insAt fiveS.data.toList [0, 10] = five5 := by rfl

theorem new_at (w : World) (cs : Array Value) (t n : Nat) (h : n = w.heap.size) : (w.alloc (.cells cs t)).heap[n]? = some (.cells cs t (0, 0)) := by
  rw [h]; exact heap_alloc_new w _

theorem map_keeps {H : Type} {w w' : World} {S : Nat → Prop} {k b n : Nat} {R : Value → Option (DataW H × List MemPlace)} {D : DataW H} (h : w.ownsMap Try.prog k R b n D) (hk : Keeps S w w') (hs : ¬ S b) : w'.ownsMap Try.prog k R b n D := by
  have hlt := h.lt
  obtain ⟨es, clock, hb, F, hs', hD⟩ := h
  exact ⟨es, clock, (hk.block b hlt hs).trans hb, F, hs', hD⟩

theorem keeps_new {S : Nat → Prop} {a b c : World} (h : Keeps (fun _ => False) a b) (k : Keeps S b c) (hS : ∀ j, S j → a.heap.size ≤ j) : Keeps (fun _ => False) a c :=
  ⟨k.os.trans h.os, k.tape.trans h.tape, k.output.trans h.output, Nat.le_trans h.size k.size, fun i hi hs => (k.block i (Nat.lt_of_lt_of_le hi h.size) (fun hj => by have := hS i hj; omega)).trans (h.block i hi hs)⟩

theorem own_keeps {w w' : World} {S : Nat → Prop} {base e size n : Nat} {v : Value} {xs : List Value} (h : w.ownsRow base e size v n xs) (hk : Keeps S w w') (hs : ∀ k, v.ownBlock = some k → ¬ S k) : w'.ownsRow base e size v n xs := by
  refine ⟨h.1, ?_⟩
  rcases h.2 with hn | ⟨g, cap, cur, rfl, hb, hgg, rest⟩
  · exact .inl hn
  · exact .inr ⟨g, cap, cur, rfl, hb, (hk.block g (Array.getElem?_eq_some_iff.1 hgg).1 (hs g rfl)).trans hgg, rest⟩

theorem undrew {w w' : World} (h : Below w.drew.heap.size w.drew w') : Below w.heap.size w w' := ⟨h.os, h.tape, h.output, h.size, h.block⟩

theorem own_mono {w : World} {base base' e size n : Nat} {v : Value} {xs : List Value} (h : w.ownsRow base e size v n xs) (hb : base' ≤ base) : w.ownsRow base' e size v n xs := by
  refine ⟨h.1, ?_⟩
  rcases h.2 with hn | ⟨g, cap, cur, hv, hbb, rest⟩
  · exact .inl hn
  · exact .inr ⟨g, cap, cur, hv, Nat.le_trans hb hbb, rest⟩

theorem own_ge2 {w : World} {base e size n B : Nat} {v : Value} {xs : List Value} (h : w.ownsRow base e size v n xs) (hB : B < base) : ¬ v.ownBlock = some B := fun hv => by
  have := own_ge h B hv
  omega

theorem res_cells {w : World} {B t : Nat} {x y : Value} (h : w.heap[B]? = some (.cells #[x, y] t (0, 0))) (u v : Value) :
    (w.setCell ⟨B, 0, none⟩ u).cell? ⟨B, 0, none⟩ = some u ∧ ((w.setCell ⟨B, 0, none⟩ u).setCell ⟨B, 1, none⟩ v).cell? ⟨B, 1, none⟩ = some v := by
  have h1 := heap_setCell_same w B 0 _ t u h
  have h2 := heap_setCell_same _ B 1 _ t v h1
  refine ⟨?_, ?_⟩
  · rw [cell_of_row _ B 0 _ t (0, 0) h1]; rfl
  · rw [cell_of_row _ B 1 _ t (0, 0) h2]; rfl

set_option maxRecDepth 100000 in
set_option maxHeartbeats 1000000 in
theorem Run_five (w : World) :
    Calls Try.prog 15 #[.string fiveS, .slice none 0 0] w fun e w' => ∃ (g : Nat) (told : Value), e = .returned (.tuple #[.agg #[.int .i64 2, told], .slice (some ⟨g, 0, none⟩) 0 0, .int .i64 0]) ∧ w'.ownsRow w.heap.size 3 1 told 1 [.int .i64 5] ∧ Below w.heap.size w w' := by
  have hmm := @run_makeMap Try.prog
  have hd := fun w => decode_loop fiveS w (by decide)
  go_enter Try.func15, Try.ntmps15
  go_wp2_with fail
  refine (byKey_nil _).mono ?_
  rintro e w1 ⟨rfl, rfl⟩
  go_wp2_with fail
  refine (hd _).mono ?_
  rintro e w2 ⟨⟨hyes, _⟩, hb2⟩
  obtain ⟨v, rfl, hown⟩ := hyes _ prog_five
  clear hyes hd
  unfold listCells at hown
  rw [ins_five] at hown
  obtain ⟨ao, cap, rfl⟩ := own_form hown
  rcases hown.2 with ⟨hv, hz⟩ | ⟨g, cap', cur, hv, hbase, hgb, _⟩
  · cases hz
  simp only [Value.slice.injEq] at hv
  obtain ⟨rfl, _, rfl⟩ := hv
  have hH : HoldsI w2 g five5 := holds_of_own (Is := five5) hown
  have hgl : g < w2.heap.size := (Array.getElem?_eq_some_iff.1 hgb).1
  have hsz2 := hb2.size
  simp at hsz2
  have hbelow2 : Below w.heap.size w w2 := (((Below.refl _ w).alloc (Nat.le_refl _) _).alloc (by simp) _).trans (hb2.mono (by simp; omega))
  have hmap2 : w2.ownsMap Try.prog 3 noElem (w.heap.size + 1) 0 (.map []) := by
    have h := World.ownsMap_made (w.alloc (.cells #[.int .i64 0, .slice none 0 0] 39)) Try.prog 3 noElem
    have e : (w.alloc (.cells #[.int .i64 0, .slice none 0 0] 39)).heap.size = w.heap.size + 1 := by simp
    rw [e] at h
    exact h.kept (grownBy_of_below hb2 none) (by simp)
  have hres : w2.heap[w.heap.size]? = some (.cells #[.int .i64 0, .slice none 0 0] 39 (0, 0)) := by
    rw [hb2.block w.heap.size (by simp; omega), Below.heap_alloc _ _ _ (by simp), heap_alloc_new]
  clear hown hgb hb2
  go_wp2_with fail
  have hM3 := new_at (w2.alloc (.map #[] 0)) (mcells [0, 0, 0, 0, 0, 0, 0, 0] (.map (some (w.heap.size + 1))) (.map (some w2.heap.size)) (.slice none 0 0)) 64 (w2.heap.size + 1) (by simp)
  have hk3 : Keeps (fun _ => False) w2 ((w2.alloc (.map #[] 0)).alloc (.cells (mcells [0, 0, 0, 0, 0, 0, 0, 0] (.map (some (w.heap.size + 1))) (.map (some w2.heap.size)) (.slice none 0 0)) 64)) := ((Keeps.refl _ _).alloc _).alloc _
  refine (run_five (w2.heap.size + 1) g cap (.map (some (w.heap.size + 1))) (.map (some w2.heap.size)) _ (by simp; omega) (by omega) hM3 (holds_keeps hH hk3 hgl (fun h => h))).mono ?_
  rintro e w3 ⟨rfl, rs, told, hM4, hrs, hown4, hk4⟩
  have hmw3 : w3.ownsMap Try.prog 3 noElem w2.heap.size 0 (.map []) := by
    have h := (World.ownsMap_made w2 Try.prog 3 noElem).alloc (.cells (mcells [0, 0, 0, 0, 0, 0, 0, 0] (.map (some (w.heap.size + 1))) (.map (some w2.heap.size)) (.slice none 0 0)) 64)
    exact map_keeps h hk4 (by omega)
  have hms3 : w3.ownsMap Try.prog 3 noElem (w.heap.size + 1) 0 (.map []) := map_keeps (map_keeps hmap2 hk3 (fun h => h)) hk4 (by omega)
  have hres3 : w3.heap[w.heap.size]? = some (.cells #[.int .i64 0, .slice none 0 0] 39 (0, 0)) := m_later (m_later hres hk3 (fun h => h)) hk4 (by omega)
  have hkw3 : Keeps (fun _ => False) w2 w3 := keeps_new hk3 hk4 (by omega)
  have c9 := mwrt hM4 hrs
  have c10 := mtold hM4 hrs
  have HM4 : Hid _ := hM4
  have HO4 : Hid _ := hown4
  have HK3 : Hid (Keeps (fun _ => False) w2 w3) := hkw3
  have HR3 : Hid (w3.heap[w.heap.size]? = some (.cells #[.int .i64 0, .slice none 0 0] 39 (0, 0))) := hres3
  have hs3 := hkw3.size
  clear hM3 hk3 hk4 hM4 hown4 hkw3 hres3 hH hres hmap2
  go_wp2_with fail
  refine (settle_empty (w.heap.size + 1) w2.heap.size 0 w3 hmw3).mono ?_
  rintro e w4 ⟨rfl, hk5⟩
  have hms4 := map_keeps hms3 hk5 (fun h => h)
  have hM5 := m_later HM4.out hk5 (fun h => h)
  have c10 := mtold hM5 hrs
  have hR5 := m_later HR3.out hk5 (fun h => h)
  have HR5 : Hid (w4.heap[w.heap.size]? = some (.cells #[.int .i64 0, .slice none 0 0] 39 (0, 0))) := hR5
  have HO5 : Hid _ := own_keeps HO4.out hk5 (fun k _ h => h)
  have HK5 : Hid (Keeps (fun _ => False) w2 w4) := HK3.out.trans hk5
  have hsz4 := HK5.out.size
  have HS : Hid _ := hms4
  obtain ⟨aot, capt, rfl⟩ := own_form HO5.out
  have hbm4 : w2.heap.size + 1 < w4.heap.size := (Array.getElem?_eq_some_iff.1 hM5).1
  clear hmw3 hms3 hk5 hms4 hM5 hR5 c9 HM4 HO4 HK3 HR3
  go_wp2
  have lat : ∀ w5, Below w4.heap.size w4 w5 → w5.cell? ⟨w2.heap.size + 1, 10, none⟩ = some (.slice aot 1 capt) ∧ w5.cell? ⟨w.heap.size, 0, none⟩ = some (.int .i64 0) ∧ w5.cell? ⟨w.heap.size, 1, none⟩ = some (.slice none 0 0) ∧ w5.frozen? ⟨w.heap.size, 0, none⟩ = false ∧ w5.frozen? ⟨w.heap.size, 1, none⟩ = false := by
    intro w5 hb
    have hR := HR5.out
    have e0 := (hb.block w.heap.size (by omega)).trans hR
    refine ⟨(hb.cell (p := ⟨w2.heap.size + 1, 10, none⟩) hbm4).trans c10, ?_, ?_, ?_, ?_⟩
    · rw [cell_of_row w5 w.heap.size 0 _ 39 (0, 0) e0]; rfl
    · rw [cell_of_row w5 w.heap.size 1 _ 39 (0, 0) e0]; rfl
    · simp [World.frozen?, e0]
    · simp [World.frozen?, e0]
  have fin : ∀ w5 g5, Below w4.heap.size w4 w5 → ∃ (g : Nat) (told : Value), Ending.returned (.tuple #[.agg #[.int .i64 2, .slice aot 1 capt], .slice (some ⟨g5, 0, none⟩) 0 0, .int .i64 0]) = .returned (.tuple #[.agg #[.int .i64 2, told], .slice (some ⟨g, 0, none⟩) 0 0, .int .i64 0]) ∧
      ((w5.setCell ⟨w.heap.size, 0, none⟩ (.int .i64 2)).setCell ⟨w.heap.size, 1, none⟩ (.slice aot 1 capt)).ownsRow w.heap.size 3 1 told 1 [.int .i64 5] ∧ Below w.heap.size w ((w5.setCell ⟨w.heap.size, 0, none⟩ (.int .i64 2)).setCell ⟨w.heap.size, 1, none⟩ (.slice aot 1 capt)) := by
    intro w5 g5 hb
    refine ⟨g5, _, rfl, ?_, ?_⟩
    · have h5 := own_below HO5.out hb
      have hne := own_ge2 h5 (B := w.heap.size) (by simp; omega)
      exact own_mono (own_set (p := ⟨w.heap.size, 1, none⟩) (own_set (p := ⟨w.heap.size, 0, none⟩) h5 hne _) hne _) (by simp; omega)
    · exact ((((hbelow2.trans (HK5.out.below (B := w.heap.size) (by omega) (fun _ h => h.elim))).trans (hb.mono (by omega))).setCell (p := ⟨w.heap.size, 0, none⟩) (Nat.le_refl _) _).setCell (p := ⟨w.heap.size, 1, none⟩) (Nat.le_refl _) _)
  have res : ∀ w5, Below w4.heap.size w4 w5 → (w5.setCell ⟨w.heap.size, 0, none⟩ (.int .i64 2)).cell? ⟨w.heap.size, 0, none⟩ = some (.int .i64 2) ∧ ((w5.setCell ⟨w.heap.size, 0, none⟩ (.int .i64 2)).setCell ⟨w.heap.size, 1, none⟩ (.slice aot 1 capt)).cell? ⟨w.heap.size, 1, none⟩ = some (.slice aot 1 capt) := by
    intro w5 hb
    exact res_cells ((hb.block w.heap.size (by omega)).trans HR5.out) _ _
  go_region_with (go_at_call 25; refine (inOrder_empty (w.heap.size + 1) 0 noElem _ ?_).mono ?_; (exact HS.out); rintro e w5 ⟨g5, rfl, hb5⟩; obtain ⟨k1, k2, k3, k4, k5⟩ := lat _ (undrew hb5))
  all_goals go_wp2
  all_goals
    obtain ⟨q0, q1⟩ := res _ (undrew hb5)
    refine bodyPost_ret (v := .tuple #[.agg #[.int .i64 2, .slice aot 1 capt], .slice (some ⟨g5, 0, none⟩) 0 0, .int .i64 0]) (by simp [results, Try.results15, go_sem, q0, q1]) rfl ?_
    exact fin _ g5 (undrew hb5)

end Go.Proofs.Ytabmdknlncijjaa
