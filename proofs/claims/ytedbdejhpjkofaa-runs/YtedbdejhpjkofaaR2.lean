import Derived.Test.YtedbdejhpjkofaaR1
import Derived.Test.YtedbdejhpjkofaaPlain6
namespace Go.Proofs.Ytedbdejhpjkofaa
open Go.RowKit Go.Maps
set_option linter.unusedVariables false
set_option linter.unusedSimpArgs false

theorem Below.drewN' {B : Nat} {a w : World} (h : Below B a w) (n : Nat) : Below B a (w.drewN n) := ⟨h.os, h.tape, h.output, h.size, h.block⟩

theorem putF_same (key val : Int) (o : List (Int × Int)) (p : Int × Int) (h : p.1 = key) : Hd.putF key val (o, true) p = (o, true) := by simp [Hd.putF, h]
theorem putF_other (key val : Int) (o : List (Int × Int)) (p : Int × Int) (h : ¬ p.1 = key) : Hd.putF key val (o, true) p = (o ++ [p], true) := by simp [Hd.putF, h]
theorem putF_less (key val : Int) (o : List (Int × Int)) (p : Int × Int) (h : p.1 < key) : Hd.putF key val (o, false) p = (o ++ [p], false) := by simp [Hd.putF, h]
theorem putF_at (key val : Int) (o : List (Int × Int)) (p : Int × Int) (h : p.1 = key) : Hd.putF key val (o, false) p = (o ++ [(key, val)], true) := by simp [Hd.putF, h]
theorem putF_more (key val : Int) (o : List (Int × Int)) (p : Int × Int) (h : key < p.1) : Hd.putF key val (o, false) p = (o ++ [(key, val)] ++ [p], true) := by
  have h1 : ¬ p.1 < key := by omega
  have h2 : ¬ p.1 = key := by omega
  simp [Hd.putF, h1, h2]

set_option maxRecDepth 100000 in
set_option maxHeartbeats 2000000 in
theorem put_any (ao : Option Addr) (cap : Nat) (L : List (Int × Int)) (key val : Int) (is : Bool) (w : World) (hL : HoldsL w ao L) (hn : L.length ≤ 8796093022207) :
    Calls Try.prog 29 #[.slice ao L.length cap, .agg #[.int .i64 key, .int .i64 val, .bool is]] w fun e w' => ∃ v, e = .returned v ∧ w'.ownsRow w.heap.size 44 2 v (Hd.putL L key val is).length (pairCells (Hd.putL L key val is)) ∧ Below w.heap.size w w' := by
  obtain ⟨i0, hi, hz0, hz1, hz2⟩ := info_parts Try.info44
  go_enter Try.func29, Try.ntmps29
  go_wp2
  go_loopw [5, 6, 7] (fun o l j wr => ∃ (k : Nat) (out : List (Int × Int)) (laid : Bool), k ≤ L.length ∧ j = .int .i64 k ∧ l = .bool laid ∧ (L.take k).foldl (Hd.putF key val) ([], !is) = (out, laid) ∧ out.length ≤ k + laid.toNat ∧
      wr.ownsRow (w.heap.size + 1) 44 2 o out.length (pairCells out) ∧ Below (w.heap.size + 1) (w.alloc (.cells #[.int .i64 key, .int .i64 val, .bool is] 75)) wr) (fun _ _ j _ => L.length - (intOf j).toNat)
  case atStart => exact ⟨0, [], !is, Nat.zero_le _, rfl, rfl, rfl, by simp, World.ownsRow_nil _ _ _ _, Below.refl _ _⟩
  case round =>
    obtain ⟨k, out, laid, hk, rfl, rfl, hfold, hout, hown, hbel⟩ := hrel
    have hsz := hbel.size
    simp only [World.size_alloc] at hsz
    have m0 : wr.cell? ⟨w.heap.size, 0, none⟩ = some (.int .i64 key) := (hbel.cell (p := ⟨w.heap.size, 0, none⟩) (by simp)).trans (by simp)
    have m1 : wr.cell? ⟨w.heap.size, 1, none⟩ = some (.int .i64 val) := (hbel.cell (p := ⟨w.heap.size, 1, none⟩) (by simp)).trans (by simp)
    have HF : Hid ((L.take k).foldl (Hd.putF key val) ([], !is) = (out, laid)) := hfold
    have HOUT : Hid (out.length ≤ k + laid.toNat) := hout
    obtain ⟨vo, vc, rfl⟩ := own_form hown
    clear hfold
    by_cases hlt : k < L.length
    · obtain ⟨g, rfl, hg, c0, c1⟩ := hL k hlt
      have d0 : wr.cell? ⟨g, k * 2, none⟩ = some (.int .i64 (L[k]).1) := (hbel.cell (p := ⟨g, k * 2, none⟩) (by simp; omega)).trans ((World.cell?_of_block (a := ⟨g, k * 2, none⟩) (Below.heap_alloc w _ g hg)).trans c0)
      have d1 : wr.cell? ⟨g, k * 2 + 1, none⟩ = some (.int .i64 (L[k]).2) := (hbel.cell (p := ⟨g, k * 2 + 1, none⟩) (by simp; omega)).trans ((World.cell?_of_block (a := ⟨g, k * 2 + 1, none⟩) (Below.heap_alloc w _ g hg)).trans c1)
      have htk := take_add L k hlt
      have Hnext : Hid (∀ r, Hd.putF key val (out, laid) L[k] = r → (L.take (k + 1)).foldl (Hd.putF key val) ([], !is) = r) := fun r h => by rw [htk, Hd.fold_snoc, HF.out, h]
      have hk0 : (0 : Int) ≤ (k : Int) := by omega
      have hk1 : (k : Int) < (L.length : Int) := by omega
      clear c0 c1 hL htk HF
      generalize L[k] = pp at *
      obtain ⟨x, y⟩ := pp
      simp only at d0 d1
      cases laid with
      | true =>
        have HOUT1 : Hid (out.length ≤ k + 1) := HOUT.out
        clear HOUT
        by_cases hx : x = key
        · subst hx
          have hne : (x != x) = false := by simp
          have HN := Hnext.out _ (putF_same x val out (x, y) rfl)
          have HNN : Hid ((L.take (k + 1)).foldl (Hd.putF x val) ([], !is) = (out, true)) := HN
          clear HN Hnext
          go_wp2
          go_quiet (fail)
          go_wp2
          go_quiet (fail)
          go_wp2
          go_roundw
          case rel => exact ⟨k + 1, out, true, by omega, by go_num, rfl, HNN.out, by have := HOUT1.out; simp only [Bool.toNat_true]; omega, own_drewN hown _, Below.drewN' hbel _⟩
          case measure => simp [intOf]; omega
        · have hne : (x != key) = true := by simpa using hx
          have HN := Hnext.out _ (putF_other key val out (x, y) hx)
          have HNN : Hid ((L.take (k + 1)).foldl (Hd.putF key val) ([], !is) = (out ++ [(x, y)], true)) := HN
          clear HN Hnext
          go_wp2
          go_quiet (fail)
          go_wp2
          go_quiet (fail)
          go_wp2_with (at_builtin; refine wpList_append_own _ rfl _ _ 27 rfl (w.heap.size + 1) 44 i0 _ 2 16 Try.underlying27 hi hz0 hz1 hz2 rfl (by decide) _ _ _ rfl ((own_drewN hown _).alloc _) _ 1 1 [.int .i64 x, .int .i64 y] rfl rfl ?c1 ?c2 ?c3 ?c4 ?c5 ?_)
          case c1 => exact news_new (wr.drewN _) [.int .i64 x, .int .i64 y] 44
          case c2 => intro u hu; simp at hu; rcases hu with rfl | rfl <;> rfl
          case c3 => have := HOUT1.out; unfold maxLen; omega
          case c4 => have := HOUT1.out; omega
          case c5 => simp <;> omega
          intro v' w3 hown' hgrow _
          have hbel3 : Below (w.heap.size + 1) (w.alloc (.cells #[.int .i64 key, .int .i64 val, .bool is] 75)) w3 := ((Below.drewN' hbel _).alloc (by simp <;> omega) _).grown hgrow (by simp <;> omega) (own_ge hown)
          have HO3 : Hid (w3.ownsRow (w.heap.size + 1) 44 2 v' _ _) := hown'
          obtain ⟨vo', vc', rfl⟩ := own_form hown'
          clear hgrow hown' hown
          go_wp2
          go_roundw
          case rel => exact ⟨k + 1, out ++ [(x, y)], true, by omega, by go_num, rfl, HNN.out, by have := HOUT1.out; simp only [List.length_append, List.length_cons, List.length_nil, Bool.toNat_true, Bool.toNat_false]; omega, by rw [pairCells_snoc]; simpa using HO3.out, hbel3⟩
          case measure => simp [intOf]; omega
      | false =>
        have HOUT1 : Hid (out.length ≤ k) := HOUT.out
        clear HOUT
        rcases Int.lt_trichotomy x key with hx | hx | hx
        · have hne : (x != key) = true := by simp; omega
          have HN := Hnext.out _ (putF_less key val out (x, y) hx)
          have HNN : Hid ((L.take (k + 1)).foldl (Hd.putF key val) ([], !is) = (out ++ [(x, y)], false)) := HN
          clear HN Hnext
          go_wp2
          go_quiet (fail)
          go_wp2
          go_quiet (fail)
          go_wp2_with (at_builtin; refine wpList_append_own _ rfl _ _ 27 rfl (w.heap.size + 1) 44 i0 _ 2 16 Try.underlying27 hi hz0 hz1 hz2 rfl (by decide) _ _ _ rfl ((own_drewN hown _).alloc _) _ 1 1 [.int .i64 x, .int .i64 y] rfl rfl ?c1 ?c2 ?c3 ?c4 ?c5 ?_)
          case c1 => exact news_new (wr.drewN _) [.int .i64 x, .int .i64 y] 44
          case c2 => intro u hu; simp at hu; rcases hu with rfl | rfl <;> rfl
          case c3 => have := HOUT1.out; unfold maxLen; omega
          case c4 => have := HOUT1.out; omega
          case c5 => simp <;> omega
          intro v' w3 hown' hgrow _
          have hbel3 : Below (w.heap.size + 1) (w.alloc (.cells #[.int .i64 key, .int .i64 val, .bool is] 75)) w3 := ((Below.drewN' hbel _).alloc (by simp <;> omega) _).grown hgrow (by simp <;> omega) (own_ge hown)
          have HO3 : Hid (w3.ownsRow (w.heap.size + 1) 44 2 v' _ _) := hown'
          obtain ⟨vo', vc', rfl⟩ := own_form hown'
          clear hgrow hown' hown
          go_wp2
          go_roundw
          case rel => exact ⟨k + 1, out ++ [(x, y)], false, by omega, by go_num, rfl, HNN.out, by have := HOUT1.out; simp only [List.length_append, List.length_cons, List.length_nil, Bool.toNat_true, Bool.toNat_false]; omega, by rw [pairCells_snoc]; simpa using HO3.out, hbel3⟩
          case measure => simp [intOf]; omega
        · subst hx
          have hne : (x != x) = false := by simp
          have HN := Hnext.out _ (putF_at x val out (x, y) rfl)
          have HNN : Hid ((L.take (k + 1)).foldl (Hd.putF x val) ([], !is) = (out ++ [(x, val)], true)) := HN
          clear HN Hnext
          go_wp2
          go_quiet (fail)
          go_wp2_with (at_builtin; refine wpList_append_own _ rfl _ _ 27 rfl (w.heap.size + 1) 44 i0 _ 2 16 Try.underlying27 hi hz0 hz1 hz2 rfl (by decide) _ _ _ rfl ((own_drewN hown _).alloc _) _ 1 1 [.int .i64 x, .int .i64 val] rfl rfl ?c1 ?c2 ?c3 ?c4 ?c5 ?_)
          case c1 => exact news_new (wr.drewN _) [.int .i64 x, .int .i64 val] 44
          case c2 => intro u hu; simp at hu; rcases hu with rfl | rfl <;> rfl
          case c3 => have := HOUT1.out; unfold maxLen; omega
          case c4 => have := HOUT1.out; omega
          case c5 => simp <;> omega
          intro v' w3 hown' hgrow _
          have hbel3 : Below (w.heap.size + 1) (w.alloc (.cells #[.int .i64 x, .int .i64 val, .bool is] 75)) w3 := ((Below.drewN' hbel _).alloc (by simp <;> omega) _).grown hgrow (by simp <;> omega) (own_ge hown)
          have HO3 : Hid (w3.ownsRow (w.heap.size + 1) 44 2 v' _ _) := hown'
          obtain ⟨vo', vc', rfl⟩ := own_form hown'
          clear hgrow hown' hown
          have e0 : w3.cell? ⟨w.heap.size, 0, none⟩ = some (.int .i64 x) := (hbel3.cell (p := ⟨w.heap.size, 0, none⟩) (by simp)).trans (by simp)
          have e1 : w3.cell? ⟨g, k * 2, none⟩ = some (.int .i64 x) := (hbel3.cell (p := ⟨g, k * 2, none⟩) (by simp; omega)).trans ((hbel.cell (p := ⟨g, k * 2, none⟩) (by simp; omega)).symm.trans d0)
          have e2 : w3.cell? ⟨g, k * 2 + 1, none⟩ = some (.int .i64 y) := (hbel3.cell (p := ⟨g, k * 2 + 1, none⟩) (by simp; omega)).trans ((hbel.cell (p := ⟨g, k * 2 + 1, none⟩) (by simp; omega)).symm.trans d1)
          have hsz3 := hbel3.size
          simp only [World.size_alloc] at hsz3
          have Hb : Hid (Below (w.heap.size + 1) (w.alloc (.cells #[.int .i64 x, .int .i64 val, .bool is] 75)) w3) := hbel3
          clear hbel3 d0 d1 hbel m0 m1
          go_wp2
          go_quiet (fail)
          go_wp2
          go_roundw
          case rel => exact ⟨k + 1, out ++ [(x, val)], true, by omega, by go_num, rfl, HNN.out, by have := HOUT1.out; simp only [List.length_append, List.length_cons, List.length_nil, Bool.toNat_true, Bool.toNat_false]; omega, by rw [pairCells_snoc]; simpa using own_drewN HO3.out _, Below.drewN' Hb.out _⟩
          case measure => simp [intOf]; omega
        · have hne : (x != key) = true := by simp; omega
          have HN := Hnext.out _ (putF_more key val out (x, y) hx)
          have HNN : Hid ((L.take (k + 1)).foldl (Hd.putF key val) ([], !is) = (out ++ [(key, val)] ++ [(x, y)], true)) := HN
          clear HN Hnext
          go_wp2
          go_quiet (fail)
          go_wp2_with (at_builtin; refine wpList_append_own _ rfl _ _ 27 rfl (w.heap.size + 1) 44 i0 _ 2 16 Try.underlying27 hi hz0 hz1 hz2 rfl (by decide) _ _ _ rfl ((own_drewN hown _).alloc _) _ 1 1 [.int .i64 key, .int .i64 val] rfl rfl ?c1 ?c2 ?c3 ?c4 ?c5 ?_)
          case c1 => exact news_new (wr.drewN _) [.int .i64 key, .int .i64 val] 44
          case c2 => intro u hu; simp at hu; rcases hu with rfl | rfl <;> rfl
          case c3 => have := HOUT1.out; unfold maxLen; omega
          case c4 => have := HOUT1.out; omega
          case c5 => simp <;> omega
          intro v' w3 hown' hgrow _
          have hbel3 : Below (w.heap.size + 1) (w.alloc (.cells #[.int .i64 key, .int .i64 val, .bool is] 75)) w3 := ((Below.drewN' hbel _).alloc (by simp <;> omega) _).grown hgrow (by simp <;> omega) (own_ge hown)
          have HO3 : Hid (w3.ownsRow (w.heap.size + 1) 44 2 v' _ _) := hown'
          obtain ⟨vo', vc', rfl⟩ := own_form hown'
          clear hgrow hown' hown
          have e0 : w3.cell? ⟨w.heap.size, 0, none⟩ = some (.int .i64 key) := (hbel3.cell (p := ⟨w.heap.size, 0, none⟩) (by simp)).trans (by simp)
          have e1 : w3.cell? ⟨g, k * 2, none⟩ = some (.int .i64 x) := (hbel3.cell (p := ⟨g, k * 2, none⟩) (by simp; omega)).trans ((hbel.cell (p := ⟨g, k * 2, none⟩) (by simp; omega)).symm.trans d0)
          have e2 : w3.cell? ⟨g, k * 2 + 1, none⟩ = some (.int .i64 y) := (hbel3.cell (p := ⟨g, k * 2 + 1, none⟩) (by simp; omega)).trans ((hbel.cell (p := ⟨g, k * 2 + 1, none⟩) (by simp; omega)).symm.trans d1)
          have hsz3 := hbel3.size
          simp only [World.size_alloc] at hsz3
          have Hb : Hid (Below (w.heap.size + 1) (w.alloc (.cells #[.int .i64 key, .int .i64 val, .bool is] 75)) w3) := hbel3
          clear hbel3 d0 d1 hbel m0 m1
          go_wp2
          go_quiet (fail)
          go_wp2_with (at_builtin; refine wpList_append_own _ rfl _ _ 27 rfl (w.heap.size + 1) 44 i0 _ 2 16 Try.underlying27 hi hz0 hz1 hz2 rfl (by decide) _ _ _ rfl ((own_drewN HO3.out _).alloc _) _ 1 1 [.int .i64 x, .int .i64 y] rfl rfl ?c1 ?c2 ?c3 ?c4 ?c5 ?_)
          case c1 => exact news_new (w3.drewN _) [.int .i64 x, .int .i64 y] 44
          case c2 => intro u hu; simp at hu; rcases hu with rfl | rfl <;> rfl
          case c3 => have := HOUT1.out; unfold maxLen; omega
          case c4 => have := HOUT1.out; omega
          case c5 => simp <;> omega
          intro v'' w4 hown'' hgrow _
          have hbel4 : Below (w.heap.size + 1) (w.alloc (.cells #[.int .i64 key, .int .i64 val, .bool is] 75)) w4 := ((Below.drewN' Hb.out _).alloc (by simp <;> omega) _).grown hgrow (by simp <;> omega) (own_ge HO3.out)
          have HO4 : Hid (w4.ownsRow (w.heap.size + 1) 44 2 v'' _ _) := hown''
          obtain ⟨vo'', vc'', rfl⟩ := own_form hown''
          clear hgrow hown''
          go_wp2
          go_roundw
          case rel => exact ⟨k + 1, out ++ [(key, val)] ++ [(x, y)], true, by omega, by go_num, rfl, HNN.out, by have := HOUT1.out; simp only [List.length_append, List.length_cons, List.length_nil, Bool.toNat_true, Bool.toNat_false]; omega, by rw [pairCells_snoc, pairCells_snoc]; simpa using HO4.out, hbel4⟩
          case measure => simp [intOf]; omega
    · have hkk : k = L.length := by omega
      subst hkk
      clear hout
      have Hf : Hid (L.foldl (Hd.putF key val) ([], !is) = (out, laid)) := by have := HF.out; rw [List.take_length] at this; exact this
      clear HF hL
      cases laid with
      | true =>
        have HOUT1 : Hid (out.length ≤ L.length + 1) := HOUT.out
        clear HOUT
        have Hp : Hid (Hd.putL L key val is = out) := by unfold Hd.putL; rw [Hf.out]; rfl
        clear Hf
        go_wp2
        go_ret
        rw [Hp.out]
        exact ⟨_, rfl, own_mono hown (by omega), ((Below.refl w.heap.size w).alloc (Nat.le_refl _) _).trans (hbel.mono (by omega))⟩
      | false =>
        have HOUT1 : Hid (out.length ≤ L.length) := HOUT.out
        clear HOUT
        have Hp : Hid (Hd.putL L key val is = out ++ [(key, val)]) := by unfold Hd.putL; rw [Hf.out]; rfl
        clear Hf
        go_wp2_with (at_builtin; refine wpList_append_own _ rfl _ _ 27 rfl (w.heap.size + 1) 44 i0 _ 2 16 Try.underlying27 hi hz0 hz1 hz2 rfl (by decide) _ _ _ rfl (hown.alloc _) _ 1 1 [.int .i64 key, .int .i64 val] rfl rfl ?c1 ?c2 ?c3 ?c4 ?c5 ?_)
        case c1 => exact news_new wr [.int .i64 key, .int .i64 val] 44
        case c2 => intro u hu; simp at hu; rcases hu with rfl | rfl <;> rfl
        case c3 => have := HOUT1.out; unfold maxLen; omega
        case c4 => have := HOUT1.out; omega
        case c5 => simp <;> omega
        intro v' w3 hown' hgrow _
        have hbel3 : Below (w.heap.size + 1) (w.alloc (.cells #[.int .i64 key, .int .i64 val, .bool is] 75)) w3 := (hbel.alloc (by omega) _).grown hgrow (by simp <;> omega) (own_ge hown)
        have HO3 : Hid (w3.ownsRow (w.heap.size + 1) 44 2 v' _ _) := hown'
        obtain ⟨vo', vc', rfl⟩ := own_form hown'
        clear hgrow hown' hown
        go_wp2
        go_ret
        rw [Hp.out]
        exact ⟨_, rfl, by rw [pairCells_snoc]; simpa using own_mono HO3.out (by omega), ((Below.refl w.heap.size w).alloc (Nat.le_refl _) _).trans (hbel3.mono (by omega))⟩

end Go.Proofs.Ytedbdejhpjkofaa
