import Derived.Test.YtedbdejhpjkofaaU13
namespace Go.Proofs.Ytedbdejhpjkofaa
open Go.RowKit Go.Maps
set_option linter.unusedVariables false
set_option linter.unusedSimpArgs false

theorem op_new (W : World) (kn : Int) (k : UInt8) (hk : kn = k.toNat) (n : Nat) (l : List UInt8) (cs : Array Value) (hcs : cs = (l.map (fun b => Value.int .u8 (b.toNat : Int))).toArray) (hn : n = l.length) (hl : l.length ≤ 8) :
    Calls Try.prog 14 #[.int .i64 kn, .slice (some ⟨W.heap.size, 0, none⟩) n n] (W.alloc (.cells cs 5)) fun e w' => ∃ t : ByteArray, e = .returned (.string t) ∧ t.data.toList = k :: l ∧ t.size ≤ 10 ∧ Below W.heap.size W w' := by
  refine (op_any kn k hk W.heap.size n l hn hl (W.alloc (.cells cs 5)) ?_ (by simp)).mono ?_
  · intro i hi
    subst hcs
    have := news_new W (l.map (fun b => Value.int .u8 (b.toNat : Int))) 5 i (.int .u8 (l[i]).toNat) (by simp [hi])
    rw [add_at] at this
    exact this
  · rintro e w' ⟨t, rfl, h1, h2, h3⟩
    exact ⟨t, rfl, h1, h2, ((Below.refl _ W).alloc (Nat.le_refl _) _).trans (h3.mono (by simp))⟩

set_option maxRecDepth 100000 in
set_option maxHeartbeats 1000000 in
theorem op_nil (w : World) : Calls Try.prog 14 #[.int .i64 11, .slice none 0 0] w fun e w' => ∃ t : ByteArray, e = .returned (.string t) ∧ t.data.toList = [11] ∧ t.size ≤ 10 ∧ Below w.heap.size w w' := by
  have h1 : (convert 53 9 (.slice (some ⟨w.heap.size, 0, none⟩) 1 1)).run Try.prog (w.alloc (.cells #[.int .u8 11] 5)) = .ok (.string ⟨#[11]⟩) (w.alloc (.cells #[.int .u8 11] 5)) := conv_new w 11
  have h2 : ∀ W : World, (convert 53 9 (.slice none 0 0)).run Try.prog W = .ok (.string ⟨#[]⟩) W := fun W => by
    rw [run_convert_bytes_string _ 53 9 5 _ _ _ Try.underlying53 Try.underlying5 Try.underlying9]
    rfl
  go_enter Try.func14, Try.ntmps14
  go_wp2
  go_ret
  exact ⟨_, rfl, rfl, (show 1 ≤ 10 by omega), (Below.refl _ _).alloc (Nat.le_refl _) _⟩

theorem holdsP_one (W : World) (k v : Int) (hk : wf k) (hv : wf v) : HoldsP (W.alloc (.cells #[.int .i64 k, .int .i64 v] 44)) (some ⟨W.heap.size, 0, none⟩) [(k, v)] := by
  intro i hi
  have : i = 0 := by simpa using hi
  subst this
  refine ⟨W.heap.size, rfl, by simp, ?_, ?_, hk, hv⟩
  · simp
  · simp

theorem once_one (k v : Int) : Hd.once [(k, v)] := by unfold Hd.once; simp
theorem once_nil : Hd.once [] := List.nodup_nil
theorem holdsP_nil (w : World) (ao : Option Addr) : HoldsP w ao [] := fun i hi => by simp at hi

/-- the one pair that stands -/
theorem stand_one {f : Int → Option Int} {ks : List Int} {key v : Int} (h : KeysOf f ks) (hk : wf key) (hf : ∀ k, f k = if k = key then some v else none) : standing f ks = [(key, v)] := by
  have e := keys_one h hk (fun k => by rw [hf k]; by_cases x : k = key <;> simp [x])
  subst e
  simp [standing, hf]

theorem pair_cells {w : World} {base lc : Nat} {lo : Option Addr} {k v : Int} (h : w.ownsRow base 44 2 (.slice lo 1 lc) 1 (pairCells [(k, v)])) : ∃ g, lo = some ⟨g, 0, none⟩ ∧ g < w.heap.size ∧ w.cell? ⟨g, 0, none⟩ = some (.int .i64 k) ∧ w.cell? ⟨g, 1, none⟩ = some (.int .i64 v) := by
  rcases h.2 with ⟨hv, hz⟩ | ⟨g, cap', cur, hv, hbase, hg, _⟩
  · omega
  · simp only [Value.slice.injEq] at hv
    obtain ⟨rfl, _, rfl⟩ := hv
    have c0 := h.cells (g := g) rfl 0 (.int .i64 k) rfl
    have c1 := h.cells (g := g) rfl 1 (.int .i64 v) rfl
    rw [add_at] at c0 c1
    exact ⟨g, rfl, (Array.getElem?_eq_some_iff.1 hg).1, c0, c1⟩

theorem wf_lit (n : Int) (h : -9223372036854775808 ≤ n ∧ n ≤ 9223372036854775807) : wf n := by
  unfold wf
  simp only [Lit.wf, IntKind.min, IntKind.max, IntKind.signed, IntKind.bits, Bool.and_eq_true, decide_eq_true_eq, if_true]
  omega

set_option maxRecDepth 100000 in
set_option maxHeartbeats 2000000 in
theorem shown12 (w : World) : Calls Try.prog 12 #[] w fun e w' => e = .returned (.bool true) ∧ Below w.heap.size w w' := by
  obtain ⟨sf, hr, hT, hW⟩ := run_shown
  have w7 : wf 7 := wf_lit 7 (by omega)
  have w10 : wf 10 := wf_lit 10 (by omega)
  have HR : Hid (Hd.runAll (Hd.ofPairs [(7, 10)]) shownI = (2, sf)) := hr
  have HT : Hid (sf.T = [15]) := hT
  have HW : Hid (∀ k, sf.W k = if k = 7 then some (some 15) else none) := hW
  have HB0 : Hid (Below w.heap.size w w) := Below.refl _ _
  clear hr hT hW
  go_enter Try.func12, Try.ntmps12
  go_wp2_with fail
  refine (const_any 0 7 (by decide) (by decide) _).mono ?_
  rintro e w1 ⟨t1, rfl, ht1, hs1, hb1⟩
  have HL1 : Hid (t1.data.toList = 1 :: UInt8.ofNat (0 : Int).toNat :: Hd.enc8 (7 % 18446744073709551616 : Int).toNat) := ht1
  have HB1 : Hid (Below w.heap.size w w1) := HB0.out.trans (hb1.mono HB0.out.size)
  clear ht1 hb1 HB0
  go_wp2_with fail
  refine (const_any 1 5 (by decide) (by decide) _).mono ?_
  rintro e w2 ⟨t2, rfl, ht2, hs2, hb2⟩
  have HL2 : Hid (t2.data.toList = 1 :: UInt8.ofNat (1 : Int).toNat :: Hd.enc8 (5 % 18446744073709551616 : Int).toNat) := ht2
  have HB2 : Hid (Below w.heap.size w w2) := HB1.out.trans (hb2.mono HB1.out.size)
  clear ht2 hb2 HB1
  go_wp2_with fail
  refine (op_new _ 2 2 rfl 2 [2, 0] _ rfl rfl (by decide)).mono ?_
  rintro e w3 ⟨t3, rfl, ht3, hs3, hb3⟩
  have HL3 : Hid (t3.data.toList = 2 :: [2, 0]) := ht3
  have HB3 : Hid (Below w.heap.size w w3) := HB2.out.trans (hb3.mono HB2.out.size)
  clear ht3 hb3 HB2
  go_wp2_with fail
  refine (op_new _ 6 6 rfl 3 [2, 2, 1] _ rfl rfl (by decide)).mono ?_
  rintro e w4 ⟨t4, rfl, ht4, hs4, hb4⟩
  have HL4 : Hid (t4.data.toList = 6 :: [2, 2, 1]) := ht4
  have HB4 : Hid (Below w.heap.size w w4) := HB3.out.trans (hb4.mono HB3.out.size)
  clear ht4 hb4 HB3
  go_wp2_with fail
  refine (op_new _ 4 4 rfl 2 [0, 2] _ rfl rfl (by decide)).mono ?_
  rintro e w5 ⟨t5, rfl, ht5, hs5, hb5⟩
  have HL5 : Hid (t5.data.toList = 4 :: [0, 2]) := ht5
  have HB5 : Hid (Below w.heap.size w w5) := HB4.out.trans (hb5.mono HB4.out.size)
  clear ht5 hb5 HB4
  go_wp2_with fail
  refine (op_new _ 10 10 rfl 1 [2] _ rfl rfl (by decide)).mono ?_
  rintro e w6 ⟨t6, rfl, ht6, hs6, hb6⟩
  have HL6 : Hid (t6.data.toList = 10 :: [2]) := ht6
  have HB6 : Hid (Below w.heap.size w w6) := HB5.out.trans (hb6.mono HB5.out.size)
  clear ht6 hb6 HB5
  go_wp2_with fail
  refine (Run_at _ shownI _ 1 [(7, 10)] _ ?_ (plain_all 0 0 0 (by decide) (by decide) (by decide)).2.2 (by decide) within_S ?_ (holdsP_one w6 7 10 w7 w10) (by decide) (once_one 7 10) 2 [15] [(7, 15)] sf HR.out HT.out ?_).mono ?_
  · rw [str_add, str_add, str_add, str_add, str_add, HL1.out, HL2.out, HL3.out, HL4.out, HL5.out, HL6.out]
    rfl
  · simp only [ByteArray.size_append]; unfold maxLen; omega
  · intro ks hks
    refine stand_one hks w7 ?_
    intro k
    simp only [Hd.lookS, HW.out k]
    by_cases x : k = 7
    · rw [if_pos x, if_pos x]
    · rw [if_neg x, if_neg x]
      simp [Hd.ofPairs]
      omega
  rintro e w7' ⟨to, lo, tc, lc, rfl, hto, hlo, hb7⟩
  obtain ⟨g1, rfl, c1⟩ := holdsN_own hto 0 (by decide)
  obtain ⟨g2, rfl, hg2, c2, c3⟩ := pair_cells hlo
  have c1' : w7'.cell? ⟨g1, 0, none⟩ = some (.int .i64 15) := c1
  have hg1 : g1 < w7'.heap.size := World.block_lt_of_cell? _ _ c1
  have HB7 : Hid (Below w.heap.size w w7') := (HB6.out.alloc HB6.out.size _).trans (hb7.mono (by have := HB6.out.size; simp; omega))
  have pe := pair_eql
  have pg := pair_guard
  clear hto hlo hb7 c1 HL1 HL2 HL3 HL4 HL5 HL6 HR HT HW HB6
  go_wp2
  go_ret
  exact ⟨by simp, HB7.out.alloc HB7.out.size _⟩

end Go.Proofs.Ytedbdejhpjkofaa
