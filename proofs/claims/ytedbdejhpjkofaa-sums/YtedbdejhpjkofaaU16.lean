import Derived.Test.YtedbdejhpjkofaaU15
namespace Go.Proofs.Ytedbdejhpjkofaa
open Go.RowKit Go.Maps
set_option linter.unusedVariables false
set_option linter.unusedSimpArgs false

set_option maxRecDepth 100000 in
set_option maxHeartbeats 4000000 in
theorem sums_lt (a b key : Int) (ha : wf a) (hb : wf b) (hk : wf key) (hab : a < b) (w : World) : Calls Try.prog 5 #[.int .i64 a, .int .i64 b, .int .i64 key] w fun e w' => e = .returned (.bool true) ∧ Below w.heap.size w w' := by
  obtain ⟨i0, hi, hz0, hz1, hz2⟩ := info_parts Try.info3
  obtain ⟨sf, hr, hT, hW⟩ := run_sumsA a b ha hb (Hd.ofPairs [])
  have HR : Hid (Hd.runAll (Hd.ofPairs []) (sumsA (nn a) (nn b)) = (2, sf)) := hr
  have HT : Hid (sf.T = [wrap64 (a + b), wrap64 (a - b), wrap64 (a * b), b]) := by rw [hT, if_pos hab, w64_eq, w64_eq, w64_eq]; rfl
  have HW : Hid (sf.W = fun _ => none) := hW
  clear hr hT hW
  obtain ⟨sf2, hr2, hT2, hW2⟩ := run_sumsU a b key ha hb hk (Hd.ofPairs [(key, 1)])
  have HR2 : Hid (Hd.runAll (Hd.ofPairs [(key, 1)]) (sumsU (nn a) (nn b) (nn key)) = (2, sf2)) := hr2
  have HT2 : Hid (sf2.T = [a, 1, 0, 0]) := hT2
  have HW2 : Hid (∀ k, sf2.W k = if k = key then some (some b) else none) := hW2
  clear hr2 hT2 hW2
  obtain ⟨sf3, hr3, hT3, hW3⟩ := run_sumsX a b key ha hb hk (Hd.ofPairs [(key, 1)])
  have HR3 : Hid (Hd.runAll (Hd.ofPairs [(key, 1)]) (sumsU (nn a) (nn b) (nn key) ++ [⟨11, 0, 0, 0, 0⟩]) = (3, sf3)) := hr3
  have HT3 : Hid (sf3.T = [a, 1, 0, 0]) := hT3
  have HW3 : Hid (sf3.W = fun _ => none) := hW3
  clear hr3 hT3 hW3
  go_enter Try.func5, Try.ntmps5
  go_wp2_with fail
  refine (shown12 _).mono ?_
  rintro e w0 ⟨rfl, hb0⟩
  have HB0 : Hid (Below w.heap.size w w0) := hb0
  clear hb0
  go_wp2_with fail
  refine (const_any 0 a (by decide) (by decide) _).mono ?_
  rintro e w1 ⟨t1, rfl, ht1, hs1, hb1⟩
  have HL1 : Hid (t1.data.toList = 1 :: UInt8.ofNat (0 : Int).toNat :: Hd.enc8 (a % 18446744073709551616 : Int).toNat) := ht1
  have HB1 : Hid (Below w.heap.size w w1) := HB0.out.trans (hb1.mono HB0.out.size)
  clear ht1 hb1 HB0
  go_wp2_with fail
  refine (const_any 1 b (by decide) (by decide) _).mono ?_
  rintro e w2 ⟨t2, rfl, ht2, hs2, hb2⟩
  have HL2 : Hid (t2.data.toList = 1 :: UInt8.ofNat (1 : Int).toNat :: Hd.enc8 (b % 18446744073709551616 : Int).toNat) := ht2
  have HB2 : Hid (Below w.heap.size w w2) := HB1.out.trans (hb2.mono HB1.out.size)
  clear ht2 hb2 HB1
  go_wp2_with fail
  refine (op_new _ 6 6 rfl 3 [2, 0, 1] _ rfl rfl (by decide)).mono ?_
  rintro e w3 ⟨t3, rfl, ht3, hs3, hb3⟩
  have HL3 : Hid (t3.data.toList = 6 :: [2, 0, 1]) := ht3
  have HB3 : Hid (Below w.heap.size w w3) := HB2.out.trans (hb3.mono HB2.out.size)
  clear ht3 hb3 HB2
  go_wp2_with fail
  refine (op_new _ 10 10 rfl 1 [2] _ rfl rfl (by decide)).mono ?_
  rintro e w4 ⟨t4, rfl, ht4, hs4, hb4⟩
  have HL4 : Hid (t4.data.toList = 10 :: [2]) := ht4
  have HB4 : Hid (Below w.heap.size w w4) := HB3.out.trans (hb4.mono HB3.out.size)
  clear ht4 hb4 HB3
  go_wp2_with fail
  refine (op_new _ 7 7 rfl 3 [2, 0, 1] _ rfl rfl (by decide)).mono ?_
  rintro e w5 ⟨t5, rfl, ht5, hs5, hb5⟩
  have HL5 : Hid (t5.data.toList = 7 :: [2, 0, 1]) := ht5
  have HB5 : Hid (Below w.heap.size w w5) := HB4.out.trans (hb5.mono HB4.out.size)
  clear ht5 hb5 HB4
  go_wp2_with fail
  refine (op_new _ 10 10 rfl 1 [2] _ rfl rfl (by decide)).mono ?_
  rintro e w6 ⟨t6, rfl, ht6, hs6, hb6⟩
  have HL6 : Hid (t6.data.toList = 10 :: [2]) := ht6
  have HB6 : Hid (Below w.heap.size w w6) := HB5.out.trans (hb6.mono HB5.out.size)
  clear ht6 hb6 HB5
  go_wp2_with fail
  refine (op_new _ 8 8 rfl 3 [2, 0, 1] _ rfl rfl (by decide)).mono ?_
  rintro e w7 ⟨t7, rfl, ht7, hs7, hb7⟩
  have HL7 : Hid (t7.data.toList = 8 :: [2, 0, 1]) := ht7
  have HB7 : Hid (Below w.heap.size w w7) := HB6.out.trans (hb7.mono HB6.out.size)
  clear ht7 hb7 HB6
  go_wp2_with fail
  refine (op_new _ 10 10 rfl 1 [2] _ rfl rfl (by decide)).mono ?_
  rintro e w8 ⟨t8, rfl, ht8, hs8, hb8⟩
  have HL8 : Hid (t8.data.toList = 10 :: [2]) := ht8
  have HB8 : Hid (Below w.heap.size w w8) := HB7.out.trans (hb8.mono HB7.out.size)
  clear ht8 hb8 HB7
  go_wp2_with fail
  refine (op_new _ 9 9 rfl 3 [0, 1, 1] _ rfl rfl (by decide)).mono ?_
  rintro e w9 ⟨t9, rfl, ht9, hs9, hb9⟩
  have HL9 : Hid (t9.data.toList = 9 :: [0, 1, 1]) := ht9
  have HB9 : Hid (Below w.heap.size w w9) := HB8.out.trans (hb9.mono HB8.out.size)
  clear ht9 hb9 HB8
  go_wp2_with fail
  refine (op_new _ 10 10 rfl 1 [0] _ rfl rfl (by decide)).mono ?_
  rintro e w10 ⟨t10, rfl, ht10, hs10, hb10⟩
  have HL10 : Hid (t10.data.toList = 10 :: [0]) := ht10
  have HB10 : Hid (Below w.heap.size w w10) := HB9.out.trans (hb10.mono HB9.out.size)
  clear ht10 hb10 HB9
  go_wp2_with fail
  refine (op_new _ 10 10 rfl 1 [1] _ rfl rfl (by decide)).mono ?_
  rintro e w11 ⟨t11, rfl, ht11, hs11, hb11⟩
  have HL11 : Hid (t11.data.toList = 10 :: [1]) := ht11
  have HB11 : Hid (Below w.heap.size w w11) := HB10.out.trans (hb11.mono HB10.out.size)
  clear ht11 hb11 HB10
  go_wp2_with fail
  refine (Run_at _ (sumsA (nn a) (nn b)) _ 0 [] _ ?_ (plain_all (nn a) (nn b) 0 (nn_lt a) (nn_lt b) (by decide)).1 (by simp [sumsA]) (within_A _ _) ?_ (holdsP_nil _ _) (by simp) once_nil 2 [wrap64 (a + b), wrap64 (a - b), wrap64 (a * b), b] [] sf HR.out HT.out ?_).mono ?_
  · rw [str_add, str_add, str_add, str_add, str_add, str_add, str_add, str_add, str_add, str_add, HL1.out, HL2.out, HL3.out, HL4.out, HL5.out, HL6.out, HL7.out, HL8.out, HL9.out, HL10.out, HL11.out]
    rfl
  · simp only [ByteArray.size_append]; unfold maxLen; omega
  · intro ks hks
    have e := keys_none hks (by intro k; simp only [Hd.lookS, HW.out]; rfl)
    rw [e]
    rfl
  rintro e w12 ⟨to, lo, tc, lc, rfl, hto, hlo, hb12⟩
  have HTO : Hid _ := hto
  have HB12 : Hid (Below w.heap.size w w12) := HB11.out.trans (hb12.mono HB11.out.size)
  have hsz11 := HB11.out.size
  clear hto hlo hb12 HR HT HW HB11
  have hsz12 := HB12.out.size
  have hO12 : (w12.alloc (.cells #[.int .i64 2, .slice to 4 tc] 39)).heap[w12.heap.size]? = some (.cells #[.int .i64 2, .slice to 4 tc] 39 (0, 0)) := heap_alloc_new _ _
  have hlit := own_lit (w12.alloc (.cells #[.int .i64 2, .slice to 4 tc] 39)) (w12.heap.size + 1) #[.int .i64 (wrap64 (a + b)), .int .i64 (wrap64 (a - b)), .int .i64 (wrap64 (a * b))] 3 (w12.heap.size + 1) (by simp) (by simp) rfl (by unfold maxLen; omega)
  have HO12 : Hid ((w12.alloc (.cells #[.int .i64 2, .slice to 4 tc] 39)).heap[w12.heap.size]? = some (.cells #[.int .i64 2, .slice to 4 tc] 39 (0, 0))) := hO12
  clear hO12
  go_wp2_with (at_builtin; refine wpList_append_own _ rfl _ _ 37 rfl (w12.heap.size + 1) 3 i0 _ 1 8 Try.underlying37 hi hz0 hz1 hz2 rfl (by decide) _ _ _ rfl (hlit.alloc _) _ 1 1 [.int .i64 b] rfl rfl ?c1 ?c2 ?c3 ?c4 ?c5 ?_)
  case c1 =>
    have hnn := news_new ((w12.alloc (.cells #[.int .i64 2, .slice to 4 tc] 39)).alloc (.cells #[.int .i64 (wrap64 (a + b)), .int .i64 (wrap64 (a - b)), .int .i64 (wrap64 (a * b))] 3)) [.int .i64 b] 3
    have e : ((w12.alloc (.cells #[.int .i64 2, .slice to 4 tc] 39)).alloc (.cells #[.int .i64 (wrap64 (a + b)), .int .i64 (wrap64 (a - b)), .int .i64 (wrap64 (a * b))] 3)).heap.size = w12.heap.size + 1 + 1 := by simp
    rw [e] at hnn
    exact hnn
  case c2 => first | rfl | (intro u hu; simp at hu; subst hu; rfl)
  case c3 => unfold maxLen; omega
  case c4 => omega
  case c5 => simp <;> omega
  intro v14 w14 hown14 hgrow14 _
  have hbl14 : Below (w12.heap.size + 1) (w12.alloc (.cells #[.int .i64 2, .slice to 4 tc] 39)) w14 := (((Below.refl _ _).alloc (by simp) _).alloc (by simp <;> omega) _).grown hgrow14 (by simp <;> omega) (fun k e => by simp [Value.ownBlock] at e; omega)
  have hsz14 := hbl14.size
  simp at hsz14
  have hO14 : w14.heap[w12.heap.size]? = some (.cells #[.int .i64 2, .slice to 4 tc] 39 (0, 0)) := (hbl14.block w12.heap.size (by omega)).trans HO12.out
  have c0 : w14.cell? ⟨w12.heap.size, 0, none⟩ = some (.int .i64 2) := by rw [cell_of_row w14 w12.heap.size 0 _ 39 (0, 0) hO14]; rfl
  have c1 : w14.cell? ⟨w12.heap.size, 1, none⟩ = some (.slice to 4 tc) := by rw [cell_of_row w14 w12.heap.size 1 _ 39 (0, 0) hO14]; rfl
  have HO14 : Hid (w14.heap[w12.heap.size]? = some (.cells #[.int .i64 2, .slice to 4 tc] 39 (0, 0))) := hO14
  have HB14 : Hid (Below w.heap.size w w14) := (HB12.out.alloc hsz12 _).trans (hbl14.mono (by omega))
  obtain ⟨ao14, cap14, rfl⟩ := own_form hown14
  have htold : w14.ownsRow w11.heap.size 3 1 (.slice to 4 tc) 4 [.int .i64 (wrap64 (a + b)), .int .i64 (wrap64 (a - b)), .int .i64 (wrap64 (a * b)), .int .i64 b] := own_belowB (World.ownsRow.alloc HTO.out _) hbl14 (fun k hk => by have := (World.ownsRow.lt HTO.out k hk).2; omega)
  have hsame := same_yes to ao14 tc cap14 [wrap64 (a + b), wrap64 (a - b), wrap64 (a * b), b] w14 (by simp) (holdsN_own htold) (holdsN_own hown14)
  clear hgrow14 hbl14 hlit hown14 htold hO14 HO12 HTO HB12
  go_wp2_with fail
  refine hsame.mono ?_
  rintro e w15 ⟨rfl, hb15⟩
  have hO15 := (hb15.block w12.heap.size (by omega)).trans HO14.out
  have e0 : w15.cell? ⟨w12.heap.size, 0, none⟩ = some (.int .i64 2) := by rw [cell_of_row w15 w12.heap.size 0 _ 39 (0, 0) hO15]; rfl
  have HO15 : Hid (w15.heap[w12.heap.size]? = some (.cells #[.int .i64 2, .slice to 4 tc] 39 (0, 0))) := hO15
  have HB15 : Hid (Below w.heap.size w w15) := HB14.out.trans (hb15.mono HB14.out.size)
  have hsz15 : w12.heap.size + 1 ≤ w15.heap.size := by have := hb15.size; omega
  clear hb15 hO15 HO14 HB14 c0 c1 hsame
  go_wp2_with fail
  refine (const_any 3 key (by decide) (by decide) _).mono ?_
  rintro e w16 ⟨t16, rfl, ht16, hs16, hb16⟩
  have HL16 : Hid (t16.data.toList = 1 :: UInt8.ofNat (3 : Int).toNat :: Hd.enc8 (key % 18446744073709551616 : Int).toNat) := ht16
  have HB16 : Hid (Below w.heap.size w w16) := HB15.out.trans (hb16.mono HB15.out.size)
  have hsz16 : w12.heap.size + 1 ≤ w16.heap.size := Nat.le_trans hsz15 hb16.size
  have HO16 : Hid (w16.heap[w12.heap.size]? = some (.cells #[.int .i64 2, .slice to 4 tc] 39 (0, 0))) := (hb16.block w12.heap.size (by omega)).trans HO15.out
  clear ht16 hb16 HB15 HO15
  go_wp2_with fail
  refine (op_new _ 4 4 rfl 2 [3, 0] _ rfl rfl (by decide)).mono ?_
  rintro e w17 ⟨t17, rfl, ht17, hs17, hb17⟩
  have HL17 : Hid (t17.data.toList = 4 :: [3, 0]) := ht17
  have HB17 : Hid (Below w.heap.size w w17) := HB16.out.trans (hb17.mono HB16.out.size)
  have hsz17 : w12.heap.size + 1 ≤ w17.heap.size := Nat.le_trans hsz16 hb17.size
  have HO17 : Hid (w17.heap[w12.heap.size]? = some (.cells #[.int .i64 2, .slice to 4 tc] 39 (0, 0))) := (hb17.block w12.heap.size (by omega)).trans HO16.out
  clear ht17 hb17 HB16 HO16
  go_wp2_with fail
  refine (op_new _ 2 2 rfl 2 [4, 3] _ rfl rfl (by decide)).mono ?_
  rintro e w18 ⟨t18, rfl, ht18, hs18, hb18⟩
  have HL18 : Hid (t18.data.toList = 2 :: [4, 3]) := ht18
  have HB18 : Hid (Below w.heap.size w w18) := HB17.out.trans (hb18.mono HB17.out.size)
  have hsz18 : w12.heap.size + 1 ≤ w18.heap.size := Nat.le_trans hsz17 hb18.size
  have HO18 : Hid (w18.heap[w12.heap.size]? = some (.cells #[.int .i64 2, .slice to 4 tc] 39 (0, 0))) := (hb18.block w12.heap.size (by omega)).trans HO17.out
  clear ht18 hb18 HB17 HO17
  go_wp2_with fail
  refine (op_new _ 10 10 rfl 1 [4] _ rfl rfl (by decide)).mono ?_
  rintro e w19 ⟨t19, rfl, ht19, hs19, hb19⟩
  have HL19 : Hid (t19.data.toList = 10 :: [4]) := ht19
  have HB19 : Hid (Below w.heap.size w w19) := HB18.out.trans (hb19.mono HB18.out.size)
  have hsz19 : w12.heap.size + 1 ≤ w19.heap.size := Nat.le_trans hsz18 hb19.size
  have HO19 : Hid (w19.heap[w12.heap.size]? = some (.cells #[.int .i64 2, .slice to 4 tc] 39 (0, 0))) := (hb19.block w12.heap.size (by omega)).trans HO18.out
  clear ht19 hb19 HB18 HO18
  go_wp2_with fail
  refine (op_new _ 3 3 rfl 2 [4, 3] _ rfl rfl (by decide)).mono ?_
  rintro e w20 ⟨t20, rfl, ht20, hs20, hb20⟩
  have HL20 : Hid (t20.data.toList = 3 :: [4, 3]) := ht20
  have HB20 : Hid (Below w.heap.size w w20) := HB19.out.trans (hb20.mono HB19.out.size)
  have hsz20 : w12.heap.size + 1 ≤ w20.heap.size := Nat.le_trans hsz19 hb20.size
  have HO20 : Hid (w20.heap[w12.heap.size]? = some (.cells #[.int .i64 2, .slice to 4 tc] 39 (0, 0))) := (hb20.block w12.heap.size (by omega)).trans HO19.out
  clear ht20 hb20 HB19 HO19
  go_wp2_with fail
  refine (op_new _ 10 10 rfl 1 [4] _ rfl rfl (by decide)).mono ?_
  rintro e w21 ⟨t21, rfl, ht21, hs21, hb21⟩
  have HL21 : Hid (t21.data.toList = 10 :: [4]) := ht21
  have HB21 : Hid (Below w.heap.size w w21) := HB20.out.trans (hb21.mono HB20.out.size)
  have hsz21 : w12.heap.size + 1 ≤ w21.heap.size := Nat.le_trans hsz20 hb21.size
  have HO21 : Hid (w21.heap[w12.heap.size]? = some (.cells #[.int .i64 2, .slice to 4 tc] 39 (0, 0))) := (hb21.block w12.heap.size (by omega)).trans HO20.out
  clear ht21 hb21 HB20 HO20
  go_wp2_with fail
  refine (op_new _ 4 4 rfl 2 [3, 1] _ rfl rfl (by decide)).mono ?_
  rintro e w22 ⟨t22, rfl, ht22, hs22, hb22⟩
  have HL22 : Hid (t22.data.toList = 4 :: [3, 1]) := ht22
  have HB22 : Hid (Below w.heap.size w w22) := HB21.out.trans (hb22.mono HB21.out.size)
  have hsz22 : w12.heap.size + 1 ≤ w22.heap.size := Nat.le_trans hsz21 hb22.size
  have HO22 : Hid (w22.heap[w12.heap.size]? = some (.cells #[.int .i64 2, .slice to 4 tc] 39 (0, 0))) := (hb22.block w12.heap.size (by omega)).trans HO21.out
  clear ht22 hb22 HB21 HO21
  go_wp2_with fail
  refine (op_new _ 5 5 rfl 1 [3] _ rfl rfl (by decide)).mono ?_
  rintro e w23 ⟨t23, rfl, ht23, hs23, hb23⟩
  have HL23 : Hid (t23.data.toList = 5 :: [3]) := ht23
  have HB23 : Hid (Below w.heap.size w w23) := HB22.out.trans (hb23.mono HB22.out.size)
  have hsz23 : w12.heap.size + 1 ≤ w23.heap.size := Nat.le_trans hsz22 hb23.size
  have HO23 : Hid (w23.heap[w12.heap.size]? = some (.cells #[.int .i64 2, .slice to 4 tc] 39 (0, 0))) := (hb23.block w12.heap.size (by omega)).trans HO22.out
  clear ht23 hb23 HB22 HO22
  go_wp2_with fail
  refine (op_new _ 3 3 rfl 2 [4, 3] _ rfl rfl (by decide)).mono ?_
  rintro e w24 ⟨t24, rfl, ht24, hs24, hb24⟩
  have HL24 : Hid (t24.data.toList = 3 :: [4, 3]) := ht24
  have HB24 : Hid (Below w.heap.size w w24) := HB23.out.trans (hb24.mono HB23.out.size)
  have hsz24 : w12.heap.size + 1 ≤ w24.heap.size := Nat.le_trans hsz23 hb24.size
  have HO24 : Hid (w24.heap[w12.heap.size]? = some (.cells #[.int .i64 2, .slice to 4 tc] 39 (0, 0))) := (hb24.block w12.heap.size (by omega)).trans HO23.out
  clear ht24 hb24 HB23 HO23
  go_wp2_with fail
  refine (op_new _ 10 10 rfl 1 [4] _ rfl rfl (by decide)).mono ?_
  rintro e w25 ⟨t25, rfl, ht25, hs25, hb25⟩
  have HL25 : Hid (t25.data.toList = 10 :: [4]) := ht25
  have HB25 : Hid (Below w.heap.size w w25) := HB24.out.trans (hb25.mono HB24.out.size)
  have hsz25 : w12.heap.size + 1 ≤ w25.heap.size := Nat.le_trans hsz24 hb25.size
  have HO25 : Hid (w25.heap[w12.heap.size]? = some (.cells #[.int .i64 2, .slice to 4 tc] 39 (0, 0))) := (hb25.block w12.heap.size (by omega)).trans HO24.out
  clear ht25 hb25 HB24 HO24
  go_wp2_with fail
  refine (op_new _ 2 2 rfl 2 [4, 3] _ rfl rfl (by decide)).mono ?_
  rintro e w26 ⟨t26, rfl, ht26, hs26, hb26⟩
  have HL26 : Hid (t26.data.toList = 2 :: [4, 3]) := ht26
  have HB26 : Hid (Below w.heap.size w w26) := HB25.out.trans (hb26.mono HB25.out.size)
  have hsz26 : w12.heap.size + 1 ≤ w26.heap.size := Nat.le_trans hsz25 hb26.size
  have HO26 : Hid (w26.heap[w12.heap.size]? = some (.cells #[.int .i64 2, .slice to 4 tc] 39 (0, 0))) := (hb26.block w12.heap.size (by omega)).trans HO25.out
  clear ht26 hb26 HB25 HO25
  go_wp2_with fail
  refine (op_new _ 10 10 rfl 1 [4] _ rfl rfl (by decide)).mono ?_
  rintro e w27 ⟨t27, rfl, ht27, hs27, hb27⟩
  have HL27 : Hid (t27.data.toList = 10 :: [4]) := ht27
  have HB27 : Hid (Below w.heap.size w w27) := HB26.out.trans (hb27.mono HB26.out.size)
  have hsz27 : w12.heap.size + 1 ≤ w27.heap.size := Nat.le_trans hsz26 hb27.size
  have HO27 : Hid (w27.heap[w12.heap.size]? = some (.cells #[.int .i64 2, .slice to 4 tc] 39 (0, 0))) := (hb27.block w12.heap.size (by omega)).trans HO26.out
  clear ht27 hb27 HB26 HO26
  go_wp2_with fail
  refine (op_new _ 4 4 rfl 2 [3, 1] _ rfl rfl (by decide)).mono ?_
  rintro e w28 ⟨t28, rfl, ht28, hs28, hb28⟩
  have HL28 : Hid (t28.data.toList = 4 :: [3, 1]) := ht28
  have HB28 : Hid (Below w.heap.size w w28) := HB27.out.trans (hb28.mono HB27.out.size)
  have hsz28 : w12.heap.size + 1 ≤ w28.heap.size := Nat.le_trans hsz27 hb28.size
  have HO28 : Hid (w28.heap[w12.heap.size]? = some (.cells #[.int .i64 2, .slice to 4 tc] 39 (0, 0))) := (hb28.block w12.heap.size (by omega)).trans HO27.out
  clear ht28 hb28 HB27 HO27
  go_wp2_with fail
  refine (Run_at _ (sumsU (nn a) (nn b) (nn key)) _ 1 [(key, 1)] _ ?_ (fun i hi => (plain_all (nn a) (nn b) (nn key) (nn_lt a) (nn_lt b) (nn_lt key)).2.1 i (List.mem_append_left _ hi)) (by simp [sumsU]) (within_U _ _ _) ?_ (holdsP_one w28 key 1 hk wf_o) (by simp) (once_one key 1) 2 [a, 1, 0, 0] [(key, b)] sf2 HR2.out HT2.out ?_).mono ?_
  · rw [str_add, str_add, str_add, str_add, str_add, str_add, str_add, str_add, str_add, str_add, str_add, str_add, str_add, str_add, HL1.out, HL2.out, HL16.out, HL17.out, HL18.out, HL19.out, HL20.out, HL21.out, HL22.out, HL23.out, HL24.out, HL25.out, HL26.out, HL27.out, HL28.out]
    rfl
  · simp only [ByteArray.size_append]; unfold maxLen; omega
  · intro ks hks
    refine stand_one hks hk ?_
    intro k
    simp only [Hd.lookS, HW2.out k]
    by_cases x : k = key
    · rw [if_pos x, if_pos x]
    · rw [if_neg x, if_neg x]
      simp [Hd.ofPairs]
      omega
  rintro e w29 ⟨to2, lo2, tc2, lc2, rfl, hto, hlo, hb29⟩
  have hbb29 : Below w28.heap.size w28 w29 := ((Below.refl _ _).alloc (Nat.le_refl _) _).trans (hb29.mono (by simp))
  have hsz29 : w12.heap.size + 1 ≤ w29.heap.size := Nat.le_trans hsz28 hbb29.size
  have hO29 := (hbb29.block w12.heap.size (by omega)).trans HO28.out
  have HB29 : Hid (Below w.heap.size w w29) := HB28.out.trans (hbb29.mono HB28.out.size)
  obtain ⟨g2, rfl, hg2, p0, p1⟩ := pair_cells hlo
  have hge2 : w12.heap.size < g2 := by have := own_ge hlo g2 rfl; simp at this; omega
  have c0 : w29.cell? ⟨w12.heap.size, 0, none⟩ = some (.int .i64 2) := by rw [cell_of_row w29 w12.heap.size 0 _ 39 (0, 0) hO29]; rfl
  have c1 : w29.cell? ⟨w12.heap.size, 1, none⟩ = some (.slice to 4 tc) := by rw [cell_of_row w29 w12.heap.size 1 _ 39 (0, 0) hO29]; rfl
  have f0 : w29.frozen? ⟨w12.heap.size, 0, none⟩ = false := by simp [World.frozen?, hO29]
  have f1 : w29.frozen? ⟨w12.heap.size, 1, none⟩ = false := by simp [World.frozen?, hO29]
  obtain ⟨q0, q1⟩ := res_cells hO29 (.int .i64 2) (.slice to2 4 tc2)
  have HO29 : Hid (w29.heap[w12.heap.size]? = some (.cells #[.int .i64 2, .slice to 4 tc] 39 (0, 0))) := hO29
  have HTO2 : Hid (w29.ownsRow (w28.alloc (.cells #[.int .i64 key, .int .i64 1] 44)).heap.size 3 1 (.slice to2 4 tc2) 4 [.int .i64 a, .int .i64 1, .int .i64 0, .int .i64 0]) := hto
  clear hto hlo hb29 hbb29 hO29 HR2 HT2 HW2 HB28 HO28
  go_wp2_with fail
  have hOS1 : (((w29).setCell ⟨w12.heap.size, 0, none⟩ (.int .i64 2)).setCell ⟨w12.heap.size, 1, none⟩ (.slice to2 4 tc2)).heap[w12.heap.size]? = some (.cells #[.int .i64 2, .slice to2 4 tc2] 39 (0, 0)) := two_set HO29.out _ _
  have hSB1 : Below w.heap.size w (((w29).setCell ⟨w12.heap.size, 0, none⟩ (.int .i64 2)).setCell ⟨w12.heap.size, 1, none⟩ (.slice to2 4 tc2)) := ((HB29.out.setCell (p := ⟨w12.heap.size, 0, none⟩) hsz12 _).setCell (p := ⟨w12.heap.size, 1, none⟩) hsz12 _)
  have hSz1 : (((w29).setCell ⟨w12.heap.size, 0, none⟩ (.int .i64 2)).setCell ⟨w12.heap.size, 1, none⟩ (.slice to2 4 tc2)).heap.size = w29.heap.size := by simp [World.setCell]
  have htl1 := own_set (p := ⟨w12.heap.size, 1, none⟩) (own_set (p := ⟨w12.heap.size, 0, none⟩) HTO2.out (own_ge2 HTO2.out (by simp; omega)) (.int .i64 2)) (own_ge2 HTO2.out (by simp; omega)) (.slice to2 4 tc2)
  have hlt1 := own_lit (((w29).setCell ⟨w12.heap.size, 0, none⟩ (.int .i64 2)).setCell ⟨w12.heap.size, 1, none⟩ (.slice to2 4 tc2)) w.heap.size #[.int .i64 a, .int .i64 1, .int .i64 0, .int .i64 0] 4 w29.heap.size hSz1.symm (by rw [hSz1]; omega) rfl (by unfold maxLen; omega)
  refine (same_yes to2 _ tc2 4 [a, 1, 0, 0] _ (by simp) (holdsN_own (World.ownsRow.alloc htl1 _)) (holdsN_own hlt1)).mono ?_
  rintro e w31 ⟨rfl, hbx1⟩
  have hbz1 : w29.heap.size + 1 ≤ w31.heap.size := by have := hbx1.size; simp only [World.size_alloc] at this; rw [hSz1] at this; exact this
  have hsx1 : ((((w29).setCell ⟨w12.heap.size, 0, none⟩ (.int .i64 2)).setCell ⟨w12.heap.size, 1, none⟩ (.slice to2 4 tc2)).alloc (.cells #[.int .i64 a, .int .i64 1, .int .i64 0, .int .i64 0] 3)).heap.size = w29.heap.size + 1 := by rw [World.size_alloc, hSz1]
  have hO1 : w31.heap[w12.heap.size]? = some (.cells #[.int .i64 2, .slice to2 4 tc2] 39 (0, 0)) := by
    rw [hbx1.block w12.heap.size (by rw [hsx1]; omega), Below.heap_alloc _ _ _ (by rw [hSz1]; omega)]
    exact hOS1
  have hP1 : w31.heap[g2]? = w29.heap[g2]? := by
    rw [hbx1.block g2 (by rw [hsx1]; omega), Below.heap_alloc _ _ _ (by rw [hSz1]; omega), Below.heap_setCell _ _ _ _ (by simp; omega), Below.heap_setCell _ _ _ _ (by simp; omega)]
  have r01 : w31.cell? ⟨g2, 0, none⟩ = some (.int .i64 key) := (World.cell?_of_block (a := ⟨g2, 0, none⟩) hP1).trans p0
  have r11 : w31.cell? ⟨g2, 1, none⟩ = some (.int .i64 b) := (World.cell?_of_block (a := ⟨g2, 1, none⟩) hP1).trans p1
  have HB31 : Hid (Below w.heap.size w w31) := (hSB1.alloc hSB1.size _).trans (hbx1.mono (by have := hSB1.size; rw [hsx1]; rw [hSz1] at this; omega))
  have HO31 : Hid (w31.heap[w12.heap.size]? = some (.cells #[.int .i64 2, .slice to2 4 tc2] 39 (0, 0))) := hO1
  have s01 : w31.cell? ⟨w12.heap.size, 0, none⟩ = some (.int .i64 2) := by rw [cell_of_row w31 w12.heap.size 0 _ 39 (0, 0) hO1]; rfl
  clear hOS1 hSB1 htl1 hlt1 hbx1 hO1 hP1 hSz1 hsx1
  clear p0 p1 q0 q1 c0 c1 f0 f1 HTO2 HO29 HB29
  have pn := pair_neq
  have pg := pair_guard
  go_wp2_with fail
  refine (op_nil _).mono ?_
  rintro e w32 ⟨t32, rfl, ht32, hs32, hb32⟩
  have HL32 : Hid (t32.data.toList = [11]) := ht32
  have HB32 : Hid (Below w.heap.size w w32) := HB31.out.trans (hb32.mono HB31.out.size)
  have hsz32 : w12.heap.size + 1 ≤ w32.heap.size := by have := hb32.size; omega
  have HO32 : Hid (w32.heap[w12.heap.size]? = some (.cells #[.int .i64 2, .slice to2 4 tc2] 39 (0, 0))) := (hb32.block w12.heap.size (by omega)).trans HO31.out
  clear ht32 hb32 HB31 HO31 r01 r11 s01 pn
  go_wp2_with fail
  refine (Run_at _ (sumsU (nn a) (nn b) (nn key) ++ [⟨11, 0, 0, 0, 0⟩]) _ 1 [(key, 1)] _ ?_ (plain_all (nn a) (nn b) (nn key) (nn_lt a) (nn_lt b) (nn_lt key)).2.1 (by simp [sumsU]) (within_X _ _ _) ?_ (holdsP_one w32 key 1 hk wf_o) (by simp) (once_one key 1) 3 [a, 1, 0, 0] [(key, 1)] sf3 HR3.out HT3.out ?_).mono ?_
  · rw [str_add, str_add, str_add, str_add, str_add, str_add, str_add, str_add, str_add, str_add, str_add, str_add, str_add, str_add, str_add, HL1.out, HL2.out, HL16.out, HL17.out, HL18.out, HL19.out, HL20.out, HL21.out, HL22.out, HL23.out, HL24.out, HL25.out, HL26.out, HL27.out, HL28.out, HL32.out]
    rfl
  · simp only [ByteArray.size_append]; unfold maxLen; omega
  · intro ks hks
    refine stand_one hks hk ?_
    intro k
    simp only [Hd.lookS, HW3.out]
    by_cases x : k = key
    · rw [if_pos x, x]; simp [Hd.ofPairs]
    · rw [if_neg x]; simp [Hd.ofPairs]; omega
  rintro e w33 ⟨to3, lo3, tc3, lc3, rfl, hto, hlo, hb33⟩
  have hbb33 : Below w32.heap.size w32 w33 := ((Below.refl _ _).alloc (Nat.le_refl _) _).trans (hb33.mono (by simp))
  have hsz33 : w12.heap.size + 1 ≤ w33.heap.size := Nat.le_trans hsz32 hbb33.size
  have hO33 := (hbb33.block w12.heap.size (by omega)).trans HO32.out
  have HB33 : Hid (Below w.heap.size w w33) := HB32.out.trans (hbb33.mono HB32.out.size)
  obtain ⟨g3, rfl, hg3, p0y, p1y⟩ := pair_cells hlo
  have hge3 : w12.heap.size < g3 := by have := own_ge hlo g3 rfl; simp at this; omega
  have c0 : w33.cell? ⟨w12.heap.size, 0, none⟩ = some (.int .i64 2) := by rw [cell_of_row w33 w12.heap.size 0 _ 39 (0, 0) hO33]; rfl
  have c1 : w33.cell? ⟨w12.heap.size, 1, none⟩ = some (.slice to2 4 tc2) := by rw [cell_of_row w33 w12.heap.size 1 _ 39 (0, 0) hO33]; rfl
  have f0 : w33.frozen? ⟨w12.heap.size, 0, none⟩ = false := by simp [World.frozen?, hO33]
  have f1 : w33.frozen? ⟨w12.heap.size, 1, none⟩ = false := by simp [World.frozen?, hO33]
  obtain ⟨q0, q1⟩ := res_cells hO33 (.int .i64 3) (.slice to3 4 tc3)
  have HO33 : Hid (w33.heap[w12.heap.size]? = some (.cells #[.int .i64 2, .slice to2 4 tc2] 39 (0, 0))) := hO33
  have HTO3 : Hid (w33.ownsRow (w32.alloc (.cells #[.int .i64 key, .int .i64 1] 44)).heap.size 3 1 (.slice to3 4 tc3) 4 [.int .i64 a, .int .i64 1, .int .i64 0, .int .i64 0]) := hto
  clear hto hlo hb33 hbb33 hO33 HR3 HT3 HW3 HB32 HO32
  go_wp2_with fail
  have hOS2 : (((w33).setCell ⟨w12.heap.size, 0, none⟩ (.int .i64 3)).setCell ⟨w12.heap.size, 1, none⟩ (.slice to3 4 tc3)).heap[w12.heap.size]? = some (.cells #[.int .i64 3, .slice to3 4 tc3] 39 (0, 0)) := two_set HO33.out _ _
  have hSB2 : Below w.heap.size w (((w33).setCell ⟨w12.heap.size, 0, none⟩ (.int .i64 3)).setCell ⟨w12.heap.size, 1, none⟩ (.slice to3 4 tc3)) := ((HB33.out.setCell (p := ⟨w12.heap.size, 0, none⟩) hsz12 _).setCell (p := ⟨w12.heap.size, 1, none⟩) hsz12 _)
  have hSz2 : (((w33).setCell ⟨w12.heap.size, 0, none⟩ (.int .i64 3)).setCell ⟨w12.heap.size, 1, none⟩ (.slice to3 4 tc3)).heap.size = w33.heap.size := by simp [World.setCell]
  have htl2 := own_set (p := ⟨w12.heap.size, 1, none⟩) (own_set (p := ⟨w12.heap.size, 0, none⟩) HTO3.out (own_ge2 HTO3.out (by simp; omega)) (.int .i64 3)) (own_ge2 HTO3.out (by simp; omega)) (.slice to3 4 tc3)
  have hlt2 := own_lit (((w33).setCell ⟨w12.heap.size, 0, none⟩ (.int .i64 3)).setCell ⟨w12.heap.size, 1, none⟩ (.slice to3 4 tc3)) w.heap.size #[.int .i64 a, .int .i64 1, .int .i64 0, .int .i64 0] 4 w33.heap.size hSz2.symm (by rw [hSz2]; omega) rfl (by unfold maxLen; omega)
  refine (same_yes to3 _ tc3 4 [a, 1, 0, 0] _ (by simp) (holdsN_own (World.ownsRow.alloc htl2 _)) (holdsN_own hlt2)).mono ?_
  rintro e w35 ⟨rfl, hbx2⟩
  have hbz2 : w33.heap.size + 1 ≤ w35.heap.size := by have := hbx2.size; simp only [World.size_alloc] at this; rw [hSz2] at this; exact this
  have hsx2 : ((((w33).setCell ⟨w12.heap.size, 0, none⟩ (.int .i64 3)).setCell ⟨w12.heap.size, 1, none⟩ (.slice to3 4 tc3)).alloc (.cells #[.int .i64 a, .int .i64 1, .int .i64 0, .int .i64 0] 3)).heap.size = w33.heap.size + 1 := by rw [World.size_alloc, hSz2]
  have hO2 : w35.heap[w12.heap.size]? = some (.cells #[.int .i64 3, .slice to3 4 tc3] 39 (0, 0)) := by
    rw [hbx2.block w12.heap.size (by rw [hsx2]; omega), Below.heap_alloc _ _ _ (by rw [hSz2]; omega)]
    exact hOS2
  have hP2 : w35.heap[g3]? = w33.heap[g3]? := by
    rw [hbx2.block g3 (by rw [hsx2]; omega), Below.heap_alloc _ _ _ (by rw [hSz2]; omega), Below.heap_setCell _ _ _ _ (by simp; omega), Below.heap_setCell _ _ _ _ (by simp; omega)]
  have r02 : w35.cell? ⟨g3, 0, none⟩ = some (.int .i64 key) := (World.cell?_of_block (a := ⟨g3, 0, none⟩) hP2).trans p0y
  have r12 : w35.cell? ⟨g3, 1, none⟩ = some (.int .i64 1) := (World.cell?_of_block (a := ⟨g3, 1, none⟩) hP2).trans p1y
  have HB35 : Hid (Below w.heap.size w w35) := (hSB2.alloc hSB2.size _).trans (hbx2.mono (by have := hSB2.size; rw [hsx2]; rw [hSz2] at this; omega))
  have HO35 : Hid (w35.heap[w12.heap.size]? = some (.cells #[.int .i64 3, .slice to3 4 tc3] 39 (0, 0))) := hO2
  have s02 : w35.cell? ⟨w12.heap.size, 0, none⟩ = some (.int .i64 3) := by rw [cell_of_row w35 w12.heap.size 0 _ 39 (0, 0) hO2]; rfl
  clear hOS2 hSB2 htl2 hlt2 hbx2 hO2 hP2 hSz2 hsx2
  clear p0y p1y q0 q1 c0 c1 f0 f1 HTO3 HO33 HB33
  have pe := pair_eql
  go_wp2
  go_ret
  exact ⟨by simp, HB35.out⟩

end Go.Proofs.Ytedbdejhpjkofaa
