import Derived.Test.YtedbdejhpjkofaaU10
import Derived.Test.YtedbdejhpjkofaaPlain5
namespace Go.Proofs.Ytedbdejhpjkofaa
open Go.RowKit Go.Maps
set_option linter.unusedVariables false
set_option linter.unusedSimpArgs false

theorem add_at (g j : Nat) : (⟨g, 0, none⟩ : Addr).add j = ⟨g, j, none⟩ := by unfold Addr.add; split <;> simp_all

theorem conv_bytes (w : World) (g cap : Nat) (l : List UInt8) (h : ∀ i (hi : i < l.length), w.cell? ⟨g, i, none⟩ = some (.int .u8 (l[i]).toNat)) : (convert 53 9 (.slice (some ⟨g, 0, none⟩) l.length cap)).run Try.prog w = .ok (.string ⟨l.toArray⟩) w := by
  refine run_convert_bytes_back w 53 9 5 ⟨g, 0, none⟩ cap l Try.underlying53 Try.underlying5 Try.underlying9 ?_
  intro i hi
  rw [add_at]
  exact h i hi

theorem conv_new (W : World) (x : Int) : (convert 53 9 (.slice (some ⟨W.heap.size, 0, none⟩) 1 1)).run Try.prog (W.alloc (.cells #[.int .u8 x] 5)) = .ok (.string ⟨#[UInt8.ofNat x.toNat]⟩) (W.alloc (.cells #[.int .u8 x] 5)) := by
  rw [run_convert_bytes_string _ 53 9 5 _ _ _ Try.underlying53 Try.underlying5 Try.underlying9]
  have hl := run_loadCells_list (P := Try.prog) (W.alloc (.cells #[.int .u8 x] 5)) ⟨W.heap.size, 0, none⟩ [.int .u8 x] (fun j v hj => news_new W [.int .u8 x] 5 j v hj)
  rw [run_bytesToString _ ⟨W.heap.size, 0, none⟩ 1 1 [x] hl]
  rfl

theorem str_add (a b : ByteArray) : (a ++ b).data.toList = a.data.toList ++ b.data.toList := by simp

set_option maxRecDepth 100000 in
set_option maxHeartbeats 1000000 in
theorem op_any (kn : Int) (k : UInt8) (hk : kn = k.toNat) (g n : Nat) (l : List UInt8) (hn : n = l.length) (hl : l.length ≤ 8) (w : World) (h : ∀ i (hi : i < l.length), w.cell? ⟨g, i, none⟩ = some (.int .u8 (l[i]).toNat)) (hlt : g < w.heap.size) :
    Calls Try.prog 14 #[.int .i64 kn, .slice (some ⟨g, 0, none⟩) n n] w fun e w' => ∃ t : ByteArray, e = .returned (.string t) ∧ t.data.toList = k :: l ∧ t.size ≤ 10 ∧ Below w.heap.size w w' := by
  subst hk
  subst hn
  have hk := UInt8.toNat_lt k
  have h1 := conv_new w (k.toNat : Int)
  have e1 : UInt8.ofNat ((k.toNat : Int)).toNat = k := by simp
  rw [e1] at h1
  have h2 := conv_bytes (w.alloc (.cells #[.int .u8 k.toNat] 5)) g l.length l (fun i hi => (World.cell?_of_block (a := ⟨g, i, none⟩) (Below.heap_alloc w _ g hlt)).trans (h i hi))
  obtain ⟨t2, ht2⟩ : ∃ t2 : ByteArray, t2 = ⟨l.toArray⟩ := ⟨_, rfl⟩
  rw [← ht2] at h2
  have hs2 : t2.size ≤ 8 := by
    rw [ht2]
    show l.toArray.size ≤ 8
    simpa using hl
  have HT2 : Hid (t2 = ⟨l.toArray⟩) := ht2
  clear h ht2
  go_enter Try.func14, Try.ntmps14
  go_wp2
  go_ret
  refine ⟨_, rfl, ?_, ?_, (Below.refl _ _).alloc (Nat.le_refl _) _⟩
  · rw [str_add, HT2.out]
    rfl
  · have : (ByteArray.mk #[k] ++ t2).size = (ByteArray.mk #[k]).size + t2.size := by simp
    show (ByteArray.mk #[k] ++ t2).size ≤ 10
    rw [this]
    have : (ByteArray.mk #[k]).size = 1 := rfl
    omega

theorem size_list (t : ByteArray) : t.size = t.data.toList.length := by simp

theorem byte_eq (n : Int) (C : Nat) (hC : 0 < C) : UInt8.ofNat (IntKind.u64.wrap n / (C : Int) % 256).toNat = UInt8.ofNat ((n % 18446744073709551616).toNat / C % 256) := by
  congr 1
  rw [IntKind.wrap_u64]
  have h0 : 0 ≤ n % 18446744073709551616 := Int.emod_nonneg _ (by decide)
  generalize n % 18446744073709551616 = x at *
  obtain ⟨m, rfl⟩ := Int.eq_ofNat_of_zero_le h0
  rw [Int.toNat_natCast]
  omega
theorem byte_eq1 (n : Int) : UInt8.ofNat (IntKind.u64.wrap n % 256).toNat = UInt8.ofNat ((n % 18446744073709551616).toNat % 256) := by
  have := byte_eq n 1 (by decide)
  simpa using this

theorem enc_step0 (n r : Int) : (1 :: UInt8.ofNat r.toNat :: (Hd.enc8 (n % 18446744073709551616).toNat).take 0) ++ (ByteArray.mk #[UInt8.ofNat (IntKind.u64.wrap n / 72057594037927936 % 256).toNat]).data.toList = 1 :: UInt8.ofNat r.toNat :: (Hd.enc8 (n % 18446744073709551616).toNat).take 1 := by
  have h := byte_eq n 72057594037927936 (by decide)
  have h' : UInt8.ofNat (IntKind.u64.wrap n / 72057594037927936 % 256).toNat = UInt8.ofNat ((n % 18446744073709551616).toNat / 72057594037927936 % 256) := h
  rw [h']
  rfl
theorem enc_step1 (n r : Int) : (1 :: UInt8.ofNat r.toNat :: (Hd.enc8 (n % 18446744073709551616).toNat).take 1) ++ (ByteArray.mk #[UInt8.ofNat (IntKind.u64.wrap n / 281474976710656 % 256).toNat]).data.toList = 1 :: UInt8.ofNat r.toNat :: (Hd.enc8 (n % 18446744073709551616).toNat).take 2 := by
  have h := byte_eq n 281474976710656 (by decide)
  have h' : UInt8.ofNat (IntKind.u64.wrap n / 281474976710656 % 256).toNat = UInt8.ofNat ((n % 18446744073709551616).toNat / 281474976710656 % 256) := h
  rw [h']
  rfl
theorem enc_step2 (n r : Int) : (1 :: UInt8.ofNat r.toNat :: (Hd.enc8 (n % 18446744073709551616).toNat).take 2) ++ (ByteArray.mk #[UInt8.ofNat (IntKind.u64.wrap n / 1099511627776 % 256).toNat]).data.toList = 1 :: UInt8.ofNat r.toNat :: (Hd.enc8 (n % 18446744073709551616).toNat).take 3 := by
  have h := byte_eq n 1099511627776 (by decide)
  have h' : UInt8.ofNat (IntKind.u64.wrap n / 1099511627776 % 256).toNat = UInt8.ofNat ((n % 18446744073709551616).toNat / 1099511627776 % 256) := h
  rw [h']
  rfl
theorem enc_step3 (n r : Int) : (1 :: UInt8.ofNat r.toNat :: (Hd.enc8 (n % 18446744073709551616).toNat).take 3) ++ (ByteArray.mk #[UInt8.ofNat (IntKind.u64.wrap n / 4294967296 % 256).toNat]).data.toList = 1 :: UInt8.ofNat r.toNat :: (Hd.enc8 (n % 18446744073709551616).toNat).take 4 := by
  have h := byte_eq n 4294967296 (by decide)
  have h' : UInt8.ofNat (IntKind.u64.wrap n / 4294967296 % 256).toNat = UInt8.ofNat ((n % 18446744073709551616).toNat / 4294967296 % 256) := h
  rw [h']
  rfl
theorem enc_step4 (n r : Int) : (1 :: UInt8.ofNat r.toNat :: (Hd.enc8 (n % 18446744073709551616).toNat).take 4) ++ (ByteArray.mk #[UInt8.ofNat (IntKind.u64.wrap n / 16777216 % 256).toNat]).data.toList = 1 :: UInt8.ofNat r.toNat :: (Hd.enc8 (n % 18446744073709551616).toNat).take 5 := by
  have h := byte_eq n 16777216 (by decide)
  have h' : UInt8.ofNat (IntKind.u64.wrap n / 16777216 % 256).toNat = UInt8.ofNat ((n % 18446744073709551616).toNat / 16777216 % 256) := h
  rw [h']
  rfl
theorem enc_step5 (n r : Int) : (1 :: UInt8.ofNat r.toNat :: (Hd.enc8 (n % 18446744073709551616).toNat).take 5) ++ (ByteArray.mk #[UInt8.ofNat (IntKind.u64.wrap n / 65536 % 256).toNat]).data.toList = 1 :: UInt8.ofNat r.toNat :: (Hd.enc8 (n % 18446744073709551616).toNat).take 6 := by
  have h := byte_eq n 65536 (by decide)
  have h' : UInt8.ofNat (IntKind.u64.wrap n / 65536 % 256).toNat = UInt8.ofNat ((n % 18446744073709551616).toNat / 65536 % 256) := h
  rw [h']
  rfl
theorem enc_step6 (n r : Int) : (1 :: UInt8.ofNat r.toNat :: (Hd.enc8 (n % 18446744073709551616).toNat).take 6) ++ (ByteArray.mk #[UInt8.ofNat (IntKind.u64.wrap n / 256 % 256).toNat]).data.toList = 1 :: UInt8.ofNat r.toNat :: (Hd.enc8 (n % 18446744073709551616).toNat).take 7 := by
  have h := byte_eq n 256 (by decide)
  have h' : UInt8.ofNat (IntKind.u64.wrap n / 256 % 256).toNat = UInt8.ofNat ((n % 18446744073709551616).toNat / 256 % 256) := h
  rw [h']
  rfl
theorem enc_step7 (n r : Int) : (1 :: UInt8.ofNat r.toNat :: (Hd.enc8 (n % 18446744073709551616).toNat).take 7) ++ (ByteArray.mk #[UInt8.ofNat (IntKind.u64.wrap n % 256).toNat]).data.toList = 1 :: UInt8.ofNat r.toNat :: (Hd.enc8 (n % 18446744073709551616).toNat).take 8 := by
  have h' := byte_eq1 n
  rw [h']
  rfl

set_option maxRecDepth 100000 in
set_option maxHeartbeats 1000000 in
theorem const_any (r n : Int) (hr : 0 ≤ r) (hr8 : r < 8) (w : World) :
    Calls Try.prog 13 #[.int .i64 r, .int .i64 n] w fun e w' => ∃ t : ByteArray, e = .returned (.string t) ∧ t.data.toList = 1 :: UInt8.ofNat r.toNat :: Hd.enc8 (n % 18446744073709551616).toNat ∧ t.size ≤ 10 ∧ Below w.heap.size w w' := by
  have h0 : (convert 53 9 (.slice (some ⟨w.heap.size, 0, none⟩) 2 2)).run Try.prog (w.alloc (.cells #[.int .u8 1, .int .u8 r] 5)) = .ok (.string ⟨#[1, UInt8.ofNat r.toNat]⟩) (w.alloc (.cells #[.int .u8 1, .int .u8 r] 5)) := by
    refine conv_bytes _ _ 2 [1, UInt8.ofNat r.toNat] ?_
    intro i hi
    have : i = 0 ∨ i = 1 := by simp at hi; omega
    rcases this with rfl | rfl
    · simp
    · simp
      omega
  go_enter Try.func13, Try.ntmps13
  go_wp2
  go_loopw [5, 6] (fun s i wr => ∃ (j : Nat) (t : ByteArray), j ≤ 8 ∧ i = .int .i64 (7 - (j : Int)) ∧ s = .string t ∧ t.data.toList = 1 :: UInt8.ofNat r.toNat :: (Hd.enc8 (n % 18446744073709551616).toNat).take j ∧ t.size ≤ 10 ∧ Below w.heap.size w wr) (fun _ i _ => (1 + intOf i).toNat)
  case atStart => exact ⟨0, _, by omega, rfl, rfl, rfl, (show 2 ≤ 10 by omega), (Below.refl _ _).alloc (Nat.le_refl _) _⟩
  case round =>
    obtain ⟨j, t, hj, rfl, rfl, ht, hts, hbel⟩ := hrel
    have HT : Hid (t.data.toList = 1 :: UInt8.ofNat r.toNat :: (Hd.enc8 (n % 18446744073709551616).toNat).take j) := ht
    have hconv := conv_new wr
    have hbs := hbel.size
    clear ht h0
    by_cases h8 : j = 8
    · subst h8
      go_wp2
      go_ret
      exact ⟨t, rfl, HT.out, hts, hbel⟩
    · have hc : j = 0 ∨ j = 1 ∨ j = 2 ∨ j = 3 ∨ j = 4 ∨ j = 5 ∨ j = 6 ∨ j = 7 := by omega
      rcases hc with rfl | rfl | rfl | rfl | rfl | rfl | rfl | rfl
      · go_wp2
        go_roundw
        case rel =>
          refine ⟨1, _, by omega, rfl, rfl, ?_, ?_, hbel.alloc hbs _⟩
          · rw [str_add, HT.out]
            exact enc_step0 n r
          · rw [size_list, str_add, HT.out]
            simp [Hd.enc8]
        case measure => simp [intOf]
      · go_wp2
        go_roundw
        case rel =>
          refine ⟨2, _, by omega, rfl, rfl, ?_, ?_, hbel.alloc hbs _⟩
          · rw [str_add, HT.out]
            exact enc_step1 n r
          · rw [size_list, str_add, HT.out]
            simp [Hd.enc8]
        case measure => simp [intOf]
      · go_wp2
        go_roundw
        case rel =>
          refine ⟨3, _, by omega, rfl, rfl, ?_, ?_, hbel.alloc hbs _⟩
          · rw [str_add, HT.out]
            exact enc_step2 n r
          · rw [size_list, str_add, HT.out]
            simp [Hd.enc8]
        case measure => simp [intOf]
      · go_wp2
        go_roundw
        case rel =>
          refine ⟨4, _, by omega, rfl, rfl, ?_, ?_, hbel.alloc hbs _⟩
          · rw [str_add, HT.out]
            exact enc_step3 n r
          · rw [size_list, str_add, HT.out]
            simp [Hd.enc8]
        case measure => simp [intOf]
      · go_wp2
        go_roundw
        case rel =>
          refine ⟨5, _, by omega, rfl, rfl, ?_, ?_, hbel.alloc hbs _⟩
          · rw [str_add, HT.out]
            exact enc_step4 n r
          · rw [size_list, str_add, HT.out]
            simp [Hd.enc8]
        case measure => simp [intOf]
      · go_wp2
        go_roundw
        case rel =>
          refine ⟨6, _, by omega, rfl, rfl, ?_, ?_, hbel.alloc hbs _⟩
          · rw [str_add, HT.out]
            exact enc_step5 n r
          · rw [size_list, str_add, HT.out]
            simp [Hd.enc8]
        case measure => simp [intOf]
      · go_wp2
        go_roundw
        case rel =>
          refine ⟨7, _, by omega, rfl, rfl, ?_, ?_, hbel.alloc hbs _⟩
          · rw [str_add, HT.out]
            exact enc_step6 n r
          · rw [size_list, str_add, HT.out]
            simp [Hd.enc8]
        case measure => simp [intOf]
      · go_wp2
        go_roundw
        case rel =>
          refine ⟨8, _, by omega, rfl, rfl, ?_, ?_, hbel.alloc hbs _⟩
          · rw [str_add, HT.out]
            exact enc_step7 n r
          · rw [size_list, str_add, HT.out]
            simp [Hd.enc8]
        case measure => simp [intOf]

end Go.Proofs.Ytedbdejhpjkofaa
