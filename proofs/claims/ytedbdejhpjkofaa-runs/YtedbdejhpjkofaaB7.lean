import Derived.Test.YtedbdejhpjkofaaB6
namespace Go.Proofs.Ytedbdejhpjkofaa
open Go.RowKit Go.Maps
set_option linter.unusedVariables false
set_option linter.unusedSimpArgs false

theorem info44_two : (Try.prog.info? 44).map (·.size) = some 2 := by kernel_rfl

/-- what the run of a book ends with -/
def BookRun (w : World) (base bb n : Nat) (ki kp : Nat) (e : Ending) (w' : World) : Prop :=
  e = .returned (.bool true) ∧ ∃ (iv' pv' : Value) (is' ps' : List Ent), Book w' w'.heap.size base bb (n + 2 : Nat) iv' pv' is' ps' ∧ is'.length = ki + 4 ∧ ps'.length = kp + 4 ∧ Below bb w w'

set_option maxRecDepth 100000 in
set_option maxHeartbeats 8000000 in
theorem bookRun_any (w : World) (base bb n : Nat) (iv pv : Value) (is ps : List Ent) (hbk : Book w w.heap.size base bb n iv pv is ps) (hbase : base ≤ w.heap.size) (hn : n ≤ 900) (hfi : is.length ≤ 80) (hfp : ps.length ≤ 80) (s : ByteArray) (hs : s.size ≤ 140737488351232) (ao : Option Addr) (cap : Nat) (Ps : List (Int × Int)) (hP : HoldsA w ao Ps) (hPs : Ps.length ≤ 8796093021952) :
    Calls Try.prog 10 #[.pointer (some ⟨bb, 0, none⟩), .string s, .slice ao Ps.length cap] w fun e w' => BookRun w base bb n is.length ps.length e w' := by
  obtain ⟨i0, hi, hz0, hz1, hz2⟩ := info_parts Try.info44
  obtain ⟨st, er, T, P, Q, hPQ, hT, hPl, hprog, href⟩ := both_runs s hs Ps hPs (wf_keys hP)
  have hwf : ∀ p, p ∈ Ps → wf p.1 ∧ wf p.2 := fun p hp => by
    obtain ⟨i, hi, rfl⟩ := List.getElem_of_mem hp
    obtain ⟨g, _, _, _, _, h⟩ := hP i hi
    exact h
  have hlt : bb < w.heap.size := (Array.getElem?_eq_some_iff.1 hbk.blk).1
  have hsrc := holdsA_src hP
  go_enter Try.func10, Try.ntmps10
  go_wp2_with (first
    | (at_make; refine wpList_make_full _ rfl _ _ 27 rfl w.heap.size 44 i0 _ 2 Try.underlying27 hi hz0 hz1 .i64 .i64 _ _ (Ps.length + 8) rfl rfl (by go_num) (by go_num) (by rw [hz2]; omega) (by unfold maxLen; omega) (Nat.le_refl _) ?_; intro w1 hown1 hgrow1)
    | (refine wpList_copy_two rfl _ _ 27 27 rfl 44 Try.underlying27 info44_two w.heap.size w.heap.size (Ps.length + 8) (Ps.length + 8) ao Ps.length cap rfl rfl _ hown1 (by omega) (pairCells Ps) (pairCells_len Ps) ?s1 ?s2 ?s3))
  case s1 =>
    intro h0
    obtain ⟨ad, e1, e2⟩ := hsrc h0
    have hb := hP.low 0 h0 ad e1
    refine ⟨ad, e1, fun j v hj => ?_⟩
    exact (World.cell?_of_block (a := ad.add j) (by rw [add_block]; exact hgrow1.block ad.block hb (by simp))).trans (e2 j v hj)
  case s2 =>
    intro v hv
    unfold pairCells at hv
    simp only [List.mem_flatMap, List.mem_cons, List.not_mem_nil, or_false] at hv
    obtain ⟨p, _, e | e⟩ := hv <;> (subst e; rfl)
  intro w2 hown2 hgrow2
  have hb1 : Below w.heap.size w w1 := (Below.refl _ w).grown hgrow1 (Nat.le_refl _) (fun k e => by cases e)
  have hb2 : Below w.heap.size w w2 := hb1.grown hgrow2 hb1.size (fun k e => by cases e; exact Nat.le_refl _)
  have hg2 : w.heap.size < w2.heap.size := (hown2.lt w.heap.size rfl).2
  obtain ⟨ys, hown2⟩ : ∃ ys, w2.ownsRow w.heap.size 44 2 (.slice (some ⟨w.heap.size, 0, none⟩) (Ps.length + 8) (Ps.length + 8)) (Ps.length + 8) (pairCells Ps ++ ys) := ⟨_, hown2⟩
  have hyl : ys.length = 16 := by
    have h := hown2.1
    rw [List.length_append, pairCells_len] at h
    omega
  have HBK2 : Hid (Book w2 w.heap.size base bb n iv pv is ps) := hbk.below hb2
  have HB2 : Hid (Below w.heap.size w w2) := hb2
  have HPA : Hid (HoldsA w ao Ps) := hP
  have HBK : Hid (Book w w.heap.size base bb n iv pv is ps) := hbk
  have HO2 : Hid (w2.ownsRow w.heap.size 44 2 (.slice (some ⟨w.heap.size, 0, none⟩) (Ps.length + 8) (Ps.length + 8)) (Ps.length + 8) (pairCells (Ps ++ []) ++ ys)) := by rw [List.append_nil]; exact hown2
  clear hown1 hgrow1 hown2 hgrow2 hb1 hb2 hsrc hbk hP
  generalize hpl : Ps.length + 8 = pl at *
  have HPL : Hid (Ps.length + 8 = pl) := hpl
  have hpl2 : (pl : Int) ≤ 8796093021960 := by omega
  clear hpl
  go_wp2
  go_loopw [8] (fun j wr => ∃ (k pk : Nat) (zs : List Value), k ≤ 8 ∧ pk = Ps.length + k ∧ j = .int .i64 (pk : Int) ∧ zs.length = (8 - k) * 2 ∧ wr.ownsRow w.heap.size 44 2 (.slice (some ⟨w.heap.size, 0, none⟩) pl pl) pl (pairCells (Ps ++ List.replicate k (77, 78)) ++ zs) ∧ Keeps (· = w.heap.size) w2 wr) (fun j _ => pl - (intOf j).toNat)
  case atStart => exact ⟨0, Ps.length, ys, by omega, by omega, rfl, by omega, HO2.out, Keeps.refl _ _⟩
  case round =>
    obtain ⟨k, pk, zs, hk, hpk, rfl, hzl, hrow, hkp⟩ := hrel
    have hszr := hkp.size
    by_cases hk8 : k < 8
    · have hl0 : (pairCells (Ps ++ List.replicate k (77, 78))).length = pk * 2 := by rw [pairCells_len]; simp; omega
      have hpp : pk < pl := by have := HPL.out; omega
      obtain ⟨z0, z1, zs2, rfl⟩ : ∃ z0 z1 zs2, zs = z0 :: z1 :: zs2 := by
        match zs, hzl with
        | [], h => simp at h; omega
        | [_], h => simp at h; omega
        | z0 :: z1 :: zs2, _ => exact ⟨z0, z1, zs2, rfl⟩
      have c0 : wr.cell? ⟨w.heap.size, pk * 2, none⟩ = some z0 := by
        rw [hrow.cellAt _ (by omega), List.getElem?_append_right (by omega), hl0]; simp
      have c1 : wr.cell? ⟨w.heap.size, pk * 2 + 1, none⟩ = some z1 := by
        rw [hrow.cellAt _ (by omega), List.getElem?_append_right (by omega), hl0]; simp
      have f0 := hrow.frozenAt (pk * 2)
      have f1 := hrow.frozenAt (pk * 2 + 1)
      have hst := (hrow.stored (pk * 2) (.int .i64 77)).1.stored (pk * 2 + 1) (.int .i64 78)
      have hset : ((pairCells (Ps ++ List.replicate k (77, 78)) ++ z0 :: z1 :: zs2).set (pk * 2) (Value.int .i64 77)).set (pk * 2 + 1) (.int .i64 78) = pairCells (Ps ++ List.replicate (k + 1) (77, 78)) ++ zs2 := by
        rw [List.set_append_right _ _ (by omega), hl0, Nat.sub_self, List.set_cons_zero, List.set_append_right _ _ (by omega), hl0]
        have e : pk * 2 + 1 - pk * 2 = 1 := by omega
        rw [e, List.replicate_succ', ← List.append_assoc, pairCells_snoc]
        simp
      rw [hset] at hst
      have HROW : Hid _ := hst.1
      have HKP : Hid (Keeps (· = w.heap.size) w2 ((wr.setCell ⟨w.heap.size, pk * 2, none⟩ (.int .i64 77)).setCell ⟨w.heap.size, pk * 2 + 1, none⟩ (.int .i64 78))) := Keeps.setCell (S := (· = w.heap.size)) (p := ⟨w.heap.size, pk * 2 + 1, none⟩) (Keeps.setCell (S := (· = w.heap.size)) (p := ⟨w.heap.size, pk * 2, none⟩) hkp (.inr rfl) _) (.inr rfl) _
      have HZL : Hid (zs2.length = (8 - (k + 1)) * 2) := by simp at hzl; show _ = _; omega
      have hi0 : (0 : Int) ≤ (pk : Int) := by omega
      have hi1 : (pk : Int) < (pl : Int) := by omega
      have HPK : Hid (pk = Ps.length + k) := hpk
      clear hrow hst hkp hset hl0 hzl hpk
      go_wp2
      go_roundw
      case rel => exact ⟨k + 1, pk + 1, zs2, by omega, by have := HPK.out; omega, by go_num, HZL.out, HROW.out, HKP.out⟩
      case measure => simp [intOf]; omega
    · have ek : k = 8 := by omega
      subst ek
      have hzn : zs = [] := List.eq_nil_of_length_eq_zero (by simpa using hzl)
      subst hzn
      rw [List.append_nil] at hrow
      have hpp : ¬ pk < pl := by have := HPL.out; omega
      have hbr : Below w.heap.size w wr := HB2.out.trans (hkp.below (B := w.heap.size) (by omega) (fun k h => by omega))
      have hPo : HoldsP wr (some ⟨w.heap.size, 0, none⟩) Ps := holdsP_row (ys := pairCells (List.replicate 8 (77, 78))) (by rw [← pairCells_app]; exact hrow) (by have := HPL.out; omega) hwf
      have hbw2 : Below w.heap.size w2 wr := hkp.below (B := w.heap.size) (by omega) (fun k h => by omega)
      have hPl2 : HoldsA wr ao Ps := holdsA_below HPA.out HPA.out.low hbr
      have HBR : Hid (Below w.heap.size w wr) := hbr
      have HROW : Hid (wr.ownsRow w.heap.size 44 2 (.slice (some ⟨w.heap.size, 0, none⟩) pl pl) pl (pairCells (Ps ++ List.replicate 8 (77, 78)))) := hrow
      have HPl2 : Hid (HoldsA wr ao Ps) := hPl2
      have hp15 := hprog (some ⟨w.heap.size, 0, none⟩) pl wr hPo.toA
      have hPsl : (Ps.length : Int) ≤ (pl : Int) := by have := HPL.out; omega
      clear hrow hkp hbr hPo hbw2 hPl2 hzl
      go_wp2_with fail
      refine hp15.mono ?_
      rintro e w5 ⟨to, lo, tc, lc, Lp, rfl, hPLp, hto, hlo, hb5⟩
      have hsz5 := hb5.size
      have hsz4 := HBR.out.size
      have h19 := href ao cap (w5.alloc (.cells #[.int .i64 st, .slice to T.length tc] 39)) (holdsA_below HPl2.out HPl2.out.low (hb5.alloc hsz5 _))
      clear hprog href hp15
      go_wp2_with fail
      refine h19.mono ?_
      rintro e w7 ⟨to2, lo2, tc2, lc2, Lq, rfl, hQ, hto2, hlo2, hb7⟩
      obtain rfl : Lq = Lp := hPQ _ _ hPLp hQ
      have hs6 : (w5.alloc (.cells #[.int .i64 st, .slice to T.length tc] 39)).heap.size = w5.heap.size + 1 := by simp
      rw [hs6] at hto2 hlo2 hb7
      have hsz7 := hb7.size
      rw [hs6] at hsz7
      have hlx : w5.heap.size < w7.heap.size := by omega
      have hbx7 : w7.heap[w5.heap.size]? = some (.cells #[.int .i64 st, .slice to T.length tc] 39 (0, 0)) := by rw [hb7.block w5.heap.size (by omega), heap_alloc_new]
      have x0 : w7.cell? ⟨w5.heap.size, 0, none⟩ = some (.int .i64 st) := by rw [cell_of_row _ _ 0 _ 39 (0, 0) hbx7]; rfl
      have hbel57 : Below w5.heap.size w5 w7 := ((Below.refl _ w5).alloc (Nat.le_refl _) _).trans (hb7.mono (by omega))
      obtain ⟨w8, hw8⟩ : ∃ w8, w8 = w7.alloc (.cells #[.int .i64 st, .slice to2 T.length tc2] 39) := ⟨_, rfl⟩
      have hb78 : Below w7.heap.size w7 w8 := by rw [hw8]; exact (Below.refl _ w7).alloc (Nat.le_refl _) _
      have hs8 : w8.heap.size = w7.heap.size + 1 := by rw [hw8]; simp
      have HBY : Hid (w8.heap[w7.heap.size]? = some (.cells #[.int .i64 st, .slice to2 T.length tc2] 39 (0, 0))) := by rw [hw8]; exact heap_alloc_new w7 _
      have HBX : Hid (w8.heap[w5.heap.size]? = some (.cells #[.int .i64 st, .slice to T.length tc] 39 (0, 0))) := (hb78.block _ hlx).trans hbx7
      have hb48 : Below wr.heap.size wr w8 := (hb5.trans (hbel57.mono hsz5)).trans (hb78.mono (by omega))
      have HTO : Hid (w8.ownsRow wr.heap.size 3 1 (.slice to T.length tc) T.length (T.map (Value.int .i64))) := own_below (own_below hto hbel57) hb78
      have HLO : Hid (w8.ownsRow wr.heap.size 44 2 (.slice lo Lq.length lc) Lq.length (pairCells Lq)) := own_below (own_below hlo hbel57) hb78
      have HTO2 : Hid (w8.ownsRow (w5.heap.size + 1) 3 1 (.slice to2 T.length tc2) T.length (T.map (Value.int .i64))) := own_below hto2 hb78
      have HLO2 : Hid (w8.ownsRow (w5.heap.size + 1) 44 2 (.slice lo2 Lq.length lc2) Lq.length (pairCells Lq)) := own_below hlo2 hb78
      have HROW8 : Hid (w8.ownsRow w.heap.size 44 2 (.slice (some ⟨w.heap.size, 0, none⟩) pl pl) pl (pairCells (Ps ++ List.replicate 8 (77, 78)))) := own_below HROW.out hb48
      have HB8 : Hid (Below w.heap.size w w8) := HBR.out.trans (hb48.mono hsz4)
      have HP8 : Hid (HoldsA w8 ao Ps) := holdsA_below HPl2.out HPl2.out.low hb48
      have hLq : Lq.length ≤ 8796093022208 := by have := hPl _ hPLp; omega
      have hg4 : w.heap.size < wr.heap.size := (HROW.out.lt w.heap.size rfl).2
      have hs48 := hb48.size
      clear hto hlo hto2 hlo2 hb5 hb7 hbx7 hbel57 hb78 hb48 hQ hPLp hPQ hPl h19 HROW HPl2 HBR hs6
      go_wp2_with (go_at_call 9; refine (num_any _ _).mono ?_; rintro e w' ⟨rfl, rfl⟩)
      rw [← hw8]
      clear hw8 x0
      have hpe := pair_eql
      have hpg := pair_guard
      obtain ⟨M, hM⟩ : ∃ M, M = Ps ++ List.replicate 8 ((77 : Int), (78 : Int)) := ⟨_, rfl⟩
      have hMl : M.length = pl := by rw [hM]; simp; exact HPL.out
      have HM1 : Hid (∀ k (h : k < Ps.length) (h2 : k < M.length), M[k] = Ps[k]) := by subst hM; intro k h h2; rw [List.getElem_append_left h]
      have HM2 : Hid (∀ k (h : ¬ k < Ps.length) (h2 : k < M.length), M[k] = (77, 78)) := by subst hM; intro k h h2; rw [List.getElem_append_right (by omega), List.getElem_replicate]
      rw [← hM] at HROW8
      clear hM
      go_loopw [15, 16] (fun okv j wr => ∃ k : Nat, k ≤ pl ∧ j = .int .i64 (k : Int) ∧ okv = .bool true ∧ wr.ownsRow w.heap.size 44 2 (.slice (some ⟨w.heap.size, 0, none⟩) pl pl) pl (pairCells (List.replicate k (99, 99) ++ M.drop k)) ∧ Keeps (· = w.heap.size) w8 wr) (fun _ j _ => pl - (intOf j).toNat)
      case atStart => exact ⟨0, by omega, rfl, by simp, HROW8.out, Keeps.refl _ _⟩
      case round =>
        obtain ⟨k, hk, rfl, rfl, hrow, hkp⟩ := hrel
        have hszr9 := hkp.size
        by_cases hkl : k < pl
        · have hkM : k < M.length := by omega
          obtain ⟨pc0, pc1⟩ := pairCells_get (List.replicate k (99, 99) ++ M.drop k) k (by simp; omega)
          have c0 := (hrow.cellAt (k * 2) (by omega)).trans pc0
          have c1 := (hrow.cellAt (k * 2 + 1) (by omega)).trans pc1
          have eM : (List.replicate k ((99 : Int), (99 : Int)) ++ M.drop k)[k]'(by simp; omega) = M[k] := by rw [List.getElem_append_right (by simp)]; simp
          rw [eM] at c0 c1
          have f0 := hrow.frozenAt (k * 2)
          have f1 := hrow.frozenAt (k * 2 + 1)
          have hgr : w.heap.size < wr.heap.size := by omega
          have HST : Hid (∀ (o : Obj) (q : Nat), ((((wr.alloc o).drewN q).setCell ⟨w.heap.size, k * 2, none⟩ (.int .i64 99)).setCell ⟨w.heap.size, k * 2 + 1, none⟩ (.int .i64 99)).ownsRow w.heap.size 44 2 (.slice (some ⟨w.heap.size, 0, none⟩) pl pl) pl (pairCells (List.replicate (k + 1) (99, 99) ++ M.drop (k + 1))) ∧ Keeps (· = w.heap.size) w8 ((((wr.alloc o).drewN q).setCell ⟨w.heap.size, k * 2, none⟩ (.int .i64 99)).setCell ⟨w.heap.size, k * 2 + 1, none⟩ (.int .i64 99))) := by
            intro o q
            have hst := ((own_drewN (hrow.alloc o) q).stored (k * 2) (.int .i64 99)).1.stored (k * 2 + 1) (.int .i64 99)
            rw [pairCells_set, rep_set _ _ _ hkM] at hst
            exact ⟨hst.1, Keeps.setCell (S := (· = w.heap.size)) (p := ⟨w.heap.size, k * 2 + 1, none⟩) (Keeps.setCell (S := (· = w.heap.size)) (p := ⟨w.heap.size, k * 2, none⟩) ((hkp.alloc o).drewN q) (.inr rfl) _) (.inr rfl) _⟩
          have hi0 : (0 : Int) ≤ (k : Int) := by omega
          have hi1 : (k : Int) < (pl : Int) := by omega
          by_cases hkP : k < Ps.length
          · obtain ⟨ad, rfl, hg, d0, d1, _, _⟩ := HP8.out k hkP
            have e1 := HM1.out k hkP hkM
            have hgw : ad.block ≠ w.heap.size := by have := HPA.out.low k hkP ad rfl; omega
            have d0' : wr.cell? (ad.add (k * 2)) = some (.int .i64 (Ps[k]).1) := (World.cell?_of_block (a := ad.add (k * 2)) (by rw [add_block]; exact hkp.block ad.block hg hgw)).trans d0
            have d1' : wr.cell? ⟨(ad.add (k * 2)).block, (ad.add (k * 2)).off + 1, none⟩ = some (.int .i64 (Ps[k]).2) := by rw [← addr_one, addr_two]; exact (World.cell?_of_block (a := ad.add (k * 2 + 1)) (by rw [add_block]; exact hkp.block ad.block hg hgw)).trans d1
            have hgl : (ad.add (k * 2)).block < wr.heap.size := by rw [add_block]; omega
            have hgn : ¬ (ad.add (k * 2)).block = wr.heap.size := by omega
            rw [e1] at c0 c1
            have hi2 : (k : Int) < (Ps.length : Int) := by omega
            have hee : ((Ps[k]).1 == (Ps[k]).1 && (Ps[k]).2 == (Ps[k]).2) = true := by simp
            clear hrow hkp pc0 pc1 eM e1 d0 d1 HM1 HM2
            generalize (Ps[k]).1 = p0 at *
            generalize (Ps[k]).2 = p1 at *
            go_wp2
            go_quiet (fail)
            go_wp2
            go_roundw
            case rel => exact ⟨k + 1, by omega, by go_num, rfl, (HST.out _ _).1, (HST.out _ _).2⟩
            case measure => simp [intOf]; omega
          · have e1 := HM2.out k hkP hkM
            rw [e1] at c0 c1
            have hi2 : ¬ (k : Int) < (Ps.length : Int) := by omega
            have hee : ((77 : Int) == 77 && (78 : Int) == 78) = true := by simp
            clear hrow hkp pc0 pc1 eM e1 HM1 HM2
            go_wp2
            go_quiet (fail)
            go_wp2
            go_roundw
            case rel => exact ⟨k + 1, by omega, by go_num, rfl, (HST.out _ _).1, (HST.out _ _).2⟩
            case measure => simp [intOf]; omega
        · have hbX9 := m_later HBX.out hkp (fun e => by omega)
          have hbY9 := m_later HBY.out hkp (fun e => by omega)
          have x1 : wr.cell? ⟨w5.heap.size, 1, none⟩ = some (.slice to T.length tc) := by rw [cell_of_row _ _ 1 _ 39 (0, 0) hbX9]; rfl
          have y1 : wr.cell? ⟨w7.heap.size, 1, none⟩ = some (.slice to2 T.length tc2) := by rw [cell_of_row _ _ 1 _ 39 (0, 0) hbY9]; rfl
          have hb9 : Below w.heap.size w wr := HB8.out.trans (hkp.below (B := w.heap.size) (by omega) (fun k h => by omega))
          have hto9 := own_keeps HTO.out hkp (fun k e1 e2 => own_ge2 HTO.out hg4 (e2 ▸ e1))
          have hto29 := own_keeps HTO2.out hkp (fun k e1 e2 => own_ge2 HTO2.out (by omega) (e2 ▸ e1))
          have hlo9 := own_keeps HLO.out hkp (fun k e1 e2 => own_ge2 HLO.out hg4 (e2 ▸ e1))
          have hlo29 := own_keeps HLO2.out hkp (fun k e1 e2 => own_ge2 HLO2.out (by omega) (e2 ▸ e1))
          have hbk9 := HBK.out.below hb9
          have ht := takeInts_any wr w.heap.size base bb n iv pv is ps to to2 tc tc2 T hbk9 (own_mono hto9 (by omega)) (holdsN_own hto29) hT (by omega) (by omega) hlt (by omega) (by omega)
          have HLO9 : Hid _ := hlo9
          have HLO29 : Hid _ := hlo29
          have HTO9 : Hid _ := hto9
          have HBK9 : Hid _ := hbk9
          have HB9 : Hid _ := hb9
          have ek : k = pl := by omega
          subst ek
          clear hrow hkp hbX9 hbY9 hb9 hto9 hto29 hlo9 hlo29 hbk9 HM1 HM2 hMl
          go_wp2_with fail
          refine ht.mono ?_
          rintro e w10 ⟨rfl, iv', is', hr10, hfi10, hfp10, hlen10, hk10⟩
          have hsz10 := hk10.size
          have hlo10 := own_keeps HLO9.out hk10 (fun k e1 e2 => by
            rcases e2 with e2 | e2 | e2
            · have := own_ge HLO9.out k e1; omega
            · exact rows_ne HLO9.out HBK9.out.ints (by decide) (by rw [e1]; simp) (e1.trans e2.symm)
            · exact rows_ne HLO9.out HTO9.out (by decide) (by rw [e1]; simp) (e1.trans e2.symm))
          have hlo210 := own_keeps HLO29.out hk10 (fun k e1 e2 => by
            rcases e2 with e2 | e2 | e2
            · have := own_ge HLO29.out k e1; omega
            · exact rows_ne HLO29.out HBK9.out.ints (by decide) (by rw [e1]; simp) (e1.trans e2.symm)
            · exact rows_ne HLO29.out HTO9.out (by decide) (by rw [e1]; simp) (e1.trans e2.symm))
          have htp := takePairs_any w10 w.heap.size w10.heap.size base bb (n + 1) iv' pv is' ps lo lo2 lc lc2 Lq hr10 hfi10 hfp10 (own_mono hlo10 (by omega)) (holdsL_own hlo210) (by omega) (by omega) (by omega) hlt (by omega) (by omega)
          have HR10 : Hid _ := hr10
          have HLO10 : Hid _ := hlo10
          have HB10 : Hid (Below bb w w10) := (HB9.out.mono (by omega)).trans (hk10.below (B := bb) (by omega) (fun k e => by
            rcases e with e | e | e
            · omega
            · have := own_ge HBK9.out.ints k e; have := HBK9.out.low; omega
            · have := own_ge HTO9.out k e; omega))
          clear hr10 hfi10 hfp10 hk10 hlo10 hlo210 ht
          go_wp2_with fail
          refine htp.mono ?_
          rintro e w11 ⟨rfl, pv', ps', hr11, hfi11, hfp11, hlen11, hk11⟩
          have HEND : Hid (BookRun w base bb n is.length ps.length (.returned (.bool true)) w11) := by
            have e2 : ((n + 1 + 1 : Nat) : Int) = ((n + 2 : Nat) : Int) := rfl
            refine ⟨rfl, iv', pv', is', ps', ⟨hr11.blk, hr11.ints, hr11.pairs, fun e he => (hfi11 e he).lift (Nat.le_refl _), hfp11, hr11.low, hr11.few, hr11.fewp⟩, hlen10, hlen11, ?_⟩
            refine HB10.out.trans (hk11.below (B := bb) (by omega) (fun k e => ?_))
            rcases e with e | e | e
            · omega
            · have := own_ge HR10.out.pairs k e; have := HR10.out.low; omega
            · have := own_ge HLO10.out k e; omega
          clear hr11 hfi11 hfp11 hk11 htp
          go_wp2
          go_ret
          exact HEND.out

end Go.Proofs.Ytedbdejhpjkofaa
