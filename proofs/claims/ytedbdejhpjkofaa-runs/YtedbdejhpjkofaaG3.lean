import Derived.Test.YtedbdejhpjkofaaG1
namespace Go.Proofs.Ytedbdejhpjkofaa
open Go.RowKit Go.Maps
set_option linter.unusedVariables false
set_option linter.unusedSimpArgs false

set_option maxRecDepth 100000 in
set_option maxHeartbeats 8000000 in
theorem refRunA_any (s : ByteArray) (hs : s.size ≤ 140737488351232) (ao : Option Addr) (cap : Nat) (Ps : List (Int × Int)) (w : World) (hP : HoldsA w ao Ps) (hn : Ps.length ≤ 8796093021952) :
    Calls Try.prog 19 #[.string s, .slice ao Ps.length cap] w fun e w' => RefEnd w s.data.toList Ps e w' := by
  have hchk := fun w => refCheck_any s w hs
  have hexe := fun (ao : Option Addr) cap L w hL hn ps hp st sf hr => executed_any s hs ao cap L w hL hn ps hp _ rfl st sf hr
  go_enter Try.func19, Try.ntmps19
  go_wp2
  go_loopw [7, 8] (fun l j wr => ∃ (k : Nat) (L : List (Int × Int)), k ≤ Ps.length ∧ j = .int .i64 k ∧ wr.ownsRow (w.heap.size + 1) 44 2 l L.length (pairCells L) ∧ Hd.up L ∧ Hd.ofPairs L = Hd.ofPairs (Ps.take k) ∧ Hd.once (Ps.take k) ∧ L.length ≤ k ∧ Below (w.heap.size + 1) (w.alloc (.cells #[.int .i64 0, .slice none 0 0] 39)) wr) (fun _ j _ => Ps.length - (intOf j).toNat)
  case atStart => exact ⟨0, [], Nat.zero_le _, rfl, World.ownsRow_nil _ _ _ _, List.Pairwise.nil, by simp, by rw [List.take_zero]; exact List.nodup_nil, Nat.le_refl _, Below.refl _ _⟩
  case round =>
    obtain ⟨k, L, hk, rfl, hrow, hup, hof, ho, hlen, hbel⟩ := hrel
    have hsz := hbel.size
    simp only [World.size_alloc] at hsz
    have hbw : Below w.heap.size w wr := ((Below.refl _ w).alloc (Nat.le_refl _) _).trans (hbel.mono (by omega))
    have hres : wr.heap[w.heap.size]? = some (.cells #[.int .i64 0, .slice none 0 0] 39 (0, 0)) := by rw [hbel.block w.heap.size (by omega), heap_alloc_new]
    obtain ⟨lo, lc, rfl⟩ := own_form hrow
    have HBW : Hid (Below w.heap.size w wr) := hbw
    have HBEL : Hid (Below (w.heap.size + 1) (w.alloc (.cells #[.int .i64 0, .slice none 0 0] 39)) wr) := hbel
    have HRES : Hid (wr.heap[w.heap.size]? = some (.cells #[.int .i64 0, .slice none 0 0] 39 (0, 0))) := hres
    have HROW : Hid (wr.ownsRow (w.heap.size + 1) 44 2 (.slice lo L.length lc) L.length (pairCells L)) := hrow
    have HUP : Hid (Hd.up L) := hup
    have HOF : Hid (Hd.ofPairs L = Hd.ofPairs (Ps.take k)) := hof
    have HO : Hid (Hd.once (Ps.take k)) := ho
    by_cases hlt : k < Ps.length
    · obtain ⟨a, rfl, hg, d0, d1, w0, w1⟩ := hP k hlt
      have c0 := (hbw.cell (p := a.add (k * 2)) (by rw [add_block]; exact hg)).trans d0
      have c1 : wr.cell? ⟨(a.add (k * 2)).block, (a.add (k * 2)).off + 1, none⟩ = some (.int .i64 (Ps[k]).2) := by rw [← addr_one, addr_two]; exact (hbw.cell (p := a.add (k * 2 + 1)) (by rw [add_block]; exact hg)).trans d1
      have Htk : Hid (Ps.take (k + 1) = Ps.take k ++ [(Ps[k].1, Ps[k].2)]) := take_add Ps k hlt
      have Hall : Hid (Ps = Ps.take k ++ (Ps[k].1, Ps[k].2) :: Ps.drop (k + 1)) := by
        have := (List.take_append_drop k Ps).symm
        rw [List.drop_eq_getElem_cons hlt] at this
        exact this
      clear d0 d1 hP hchk hexe
      generalize (Ps[k]).1 = key at *
      generalize (Ps[k]).2 = val at *
      have hu := under_any lo lc L key wr (holdsL_own hrow) (by omega)
      rw [hof] at hu
      clear hrow hup hof ho hbw hbel hres
      cases hf : Hd.ofPairs (Ps.take k) key with
      | some v =>
        rw [hf] at hu
        simp only [Option.getD_some, Option.isSome_some] at hu
        have HN : Hid (¬ Hd.once Ps) := by
          have := Hd.not_once (Ps.take k) (Ps.drop (k + 1)) key val (by rw [hf]; simp)
          rw [← Hall.out] at this
          exact this
        clear hf
        have r0 : wr.cell? ⟨w.heap.size, 0, none⟩ = some (.int .i64 0) := by rw [cell_of_row wr w.heap.size 0 _ 39 (0, 0) HRES.out]; rfl
        have r1 : wr.cell? ⟨w.heap.size, 1, none⟩ = some (.slice none 0 0) := by rw [cell_of_row wr w.heap.size 1 _ 39 (0, 0) HRES.out]; rfl
        have f0 : wr.frozen? ⟨w.heap.size, 0, none⟩ = false := xfree HRES.out 0
        have f1 : wr.frozen? ⟨w.heap.size, 1, none⟩ = false := xfree HRES.out 1
        obtain ⟨q0, q1⟩ := res_both HRES.out (.int .i64 0) (.slice none 0 0)
        go_wp2_with fail
        refine hu.mono ?_
        rintro e w' ⟨rfl, rfl⟩
        go_wp2
        refine bodyPost_ret (v := .tuple #[.agg #[.int .i64 0, .slice none 0 0], .slice none 0 0, .int .i64 1]) (by simp [results, Try.results19, go_sem, q0, q1]) rfl ?_
        exact ⟨(HBW.out.setCell (p := ⟨w.heap.size, 0, none⟩) (Nat.le_refl _) _).setCell (p := ⟨w.heap.size, 1, none⟩) (Nat.le_refl _) _, fun _ => rfl, fun h => absurd h HN.out, fun h => absurd h HN.out⟩
      | none =>
        rw [hf] at hu
        simp only [Option.getD_none, Option.isSome_none] at hu
        have Hf : Hid (Hd.ofPairs (Ps.take k) key = none) := hf
        clear hf
        have hput : Hid (∀ q, Calls Try.prog 29 #[.slice lo L.length lc, .agg #[.int .i64 key, .int .i64 val, .bool true]] (wr.drewN q) fun e w' => ∃ v, e = .returned v ∧ w'.ownsRow wr.heap.size 44 2 v (Hd.putL L key val true).length (pairCells (Hd.putL L key val true)) ∧ Below wr.heap.size wr w') := fun q => (put_any lo lc L key val true (wr.drewN q) (holdsL_drewN (holdsL_own HROW.out) q) (by omega)).mono fun e w' ⟨v, h1, h2, h3⟩ => ⟨v, h1, h2, undrewN h3⟩
        go_wp2_with fail
        refine hu.mono ?_
        rintro e w' ⟨rfl, rfl⟩
        go_wp2
        go_region_with (go_at_call 29; refine (hput.out _).mono ?_; rintro e w5 ⟨v5, rfl, hv5, hb5⟩)
        all_goals go_wp2
        all_goals (first | go_roundw | skip)
        all_goals first
          | (simp [intOf]; omega)
          | (refine ⟨k + 1, Hd.putL L key val true, by omega, by go_num, own_mono hv5 (by omega), Hd.up_putL HUP.out _ _ _, ?_, ?_, ?_, ?_⟩
             · rw [Hd.ofPairs_putL, HOF.out, Htk.out, Hd.ofPairs_snoc _ _ _ Hf.out]; rfl
             · rw [Htk.out]; exact Hd.once_snoc _ _ _ HO.out Hf.out
             · have := Hd.len_putL L key val true; omega
             · exact HBEL.out.trans (hb5.mono (by omega)))
    · have ek : k = Ps.length := by omega
      have et : Ps.take k = Ps := List.take_of_length_le (by omega)
      rw [et] at HOF HO
      clear hrow hup hof ho hbw hbel hres et
      have hc1 := hchk wr
      unfold chk at hc1
      cases hpr : Hd.prog s.data.toList with
      | none =>
        rw [hpr] at hc1
        simp only [Option.isSome_none, Bool.false_eq_true, if_false] at hc1
        have HPR : Hid (Hd.prog s.data.toList = none) := hpr
        clear hpr hexe hchk
        go_wp2_with fail
        refine hc1.mono ?_
        rintro e w2 ⟨rfl, hb2⟩
        have hres2 := (hb2.block w.heap.size (by omega)).trans HRES.out
        have r0 : w2.cell? ⟨w.heap.size, 0, none⟩ = some (.int .i64 0) := by rw [cell_of_row w2 w.heap.size 0 _ 39 (0, 0) hres2]; rfl
        have r1 : w2.cell? ⟨w.heap.size, 1, none⟩ = some (.slice none 0 0) := by rw [cell_of_row w2 w.heap.size 1 _ 39 (0, 0) hres2]; rfl
        have f0 : w2.frozen? ⟨w.heap.size, 0, none⟩ = false := xfree hres2 0
        have f1 : w2.frozen? ⟨w.heap.size, 1, none⟩ = false := xfree hres2 1
        obtain ⟨q0, q1⟩ := res_both hres2 (.int .i64 0) (.slice none 0 0)
        have HB2 : Hid (Below w.heap.size w w2) := HBW.out.trans (hb2.mono (by omega))
        clear hb2 hres2 hc1
        go_wp2
        refine bodyPost_ret (v := .tuple #[.agg #[.int .i64 0, .slice none 0 0], .slice none 0 0, .int .i64 2]) (by simp [results, Try.results19, go_sem, q0, q1]) rfl ?_
        exact ⟨(HB2.out.setCell (p := ⟨w.heap.size, 0, none⟩) (Nat.le_refl _) _).setCell (p := ⟨w.heap.size, 1, none⟩) (Nat.le_refl _) _, fun h => absurd HO.out h, fun _ _ => rfl, fun _ ps h => by rw [HPR.out] at h; cases h⟩
      | some ps =>
        rw [hpr] at hc1
        simp only [Option.isSome_some, if_true] at hc1
        have HPR : Hid (Hd.prog s.data.toList = some ps) := hpr
        obtain ⟨st, sf, hrun⟩ : ∃ st sf, Hd.runAll (Hd.ofPairs L) (Hd.insAt s.data.toList ps) = (st, sf) := ⟨_, _, rfl⟩
        have HRUN : Hid (Hd.runAll (Hd.ofPairs Ps) (Hd.insAt s.data.toList ps) = (st, sf)) := by rw [← HOF.out]; exact hrun
        have hx : Hid (∀ W, HoldsL W lo L → Calls Try.prog 30 #[.string s, .slice lo L.length lc] W fun e w' => DoneAt W st sf e w') := fun W hW => hexe lo lc L W hW (by omega) ps hpr st sf hrun
        clear hpr hexe hchk hrun
        go_wp2_with fail
        refine hc1.mono ?_
        rintro e w2 ⟨rfl, hb2⟩
        have hsz2 := hb2.size
        have hL2 := holdsL_below (holdsL_own HROW.out) hb2
        have HROW2 : Hid (w2.ownsRow (w.heap.size + 1) 44 2 (.slice lo L.length lc) L.length (pairCells L)) := own_below HROW.out hb2
        have HRES2 : Hid (w2.heap[w.heap.size]? = some (.cells #[.int .i64 0, .slice none 0 0] 39 (0, 0))) := (hb2.block w.heap.size (by omega)).trans HRES.out
        have HBW2 : Hid (Below w.heap.size w w2) := HBW.out.trans (hb2.mono (by omega))
        clear hb2 hc1
        go_wp2_with fail
        refine (hx.out _ hL2).mono ?_
        rintro e w3 ⟨tv, rv, wv, ms, rfl, htv, hwv, hW, hm, hT, hb3, hrv, _, _⟩
        have hsz3 := hb3.size
        obtain ⟨to, tc, rfl⟩ := own_form htv
        obtain ⟨wo, wc, rfl⟩ := own_form hwv
        obtain ⟨ro, rc, rfl⟩ := own_form hrv
        have HD4 : Hid ((w3.alloc (.cells #[.int .i64 st, .slice to sf.T.length tc, .slice ro sf.R.length rc, .slice wo ms.length wc] 78)).heap[w3.heap.size]? = some (.cells #[.int .i64 st, .slice to sf.T.length tc, .slice ro sf.R.length rc, .slice wo ms.length wc] 78 (0, 0))) := heap_alloc_new w3 _
        have hkA : Below w3.heap.size w3 (w3.alloc (.cells #[.int .i64 st, .slice to sf.T.length tc, .slice ro sf.R.length rc, .slice wo ms.length wc] 78)) := (Below.refl _ _).alloc (Nat.le_refl _) _
        have HTV4 : Hid ((w3.alloc (.cells #[.int .i64 st, .slice to sf.T.length tc, .slice ro sf.R.length rc, .slice wo ms.length wc] 78)).ownsRow w2.heap.size 3 1 (.slice to sf.T.length tc) sf.T.length (sf.T.map (Value.int .i64))) := own_below htv hkA
        have HMS4 : Hid (HoldsM (w3.alloc (.cells #[.int .i64 st, .slice to sf.T.length tc, .slice ro sf.R.length rc, .slice wo ms.length wc] 78)) wo ms) := holdsM_own (own_below hwv hkA)
        have HROW4 : Hid ((w3.alloc (.cells #[.int .i64 st, .slice to sf.T.length tc, .slice ro sf.R.length rc, .slice wo ms.length wc] 78)).ownsRow (w.heap.size + 1) 44 2 (.slice lo L.length lc) L.length (pairCells L)) := own_below (own_below HROW2.out hb3) hkA
        have HRES4 : Hid ((w3.alloc (.cells #[.int .i64 st, .slice to sf.T.length tc, .slice ro sf.R.length rc, .slice wo ms.length wc] 78)).heap[w.heap.size]? = some (.cells #[.int .i64 0, .slice none 0 0] 39 (0, 0))) := (hkA.block w.heap.size (by omega)).trans ((hb3.block w.heap.size (by omega)).trans HRES2.out)
        have HB4 : Hid (Below w.heap.size w (w3.alloc (.cells #[.int .i64 st, .slice to sf.T.length tc, .slice ro sf.R.length rc, .slice wo ms.length wc] 78))) := (HBW2.out.trans (hb3.mono (by omega))).trans (hkA.mono (by omega))
        have HWM : Hid (sf.W = Hd.marksW ms) := hW
        have hsz4 : w.heap.size + 1 ≤ w3.heap.size := by omega
        clear htv hwv hrv hW hb3 hkA hx hL2
        obtain ⟨w4, hw4⟩ : ∃ w4, w4 = w3.alloc (.cells #[.int .i64 st, .slice to sf.T.length tc, .slice ro sf.R.length rc, .slice wo ms.length wc] 78) := ⟨_, rfl⟩
        have hs4 : w4.heap.size = w3.heap.size + 1 := by rw [hw4]; simp
        rw [← hw4] at HD4 HTV4 HMS4 HROW4 HRES4 HB4
        go_wp2
        rw [← hw4]
        go_loopw [7, 13] (fun l j wr => ∃ k : Nat, k ≤ ms.length ∧ j = .int .i64 k ∧ wr.ownsRow (w.heap.size + 1) 44 2 l (Hd.putMs L (ms.take k)).length (pairCells (Hd.putMs L (ms.take k))) ∧ Below w4.heap.size w4 wr) (fun _ j _ => ms.length - (intOf j).toNat)
        case atStart => exact ⟨0, Nat.zero_le _, rfl, HROW4.out, Below.refl _ _⟩
        case round =>
          obtain ⟨k2, hk2, rfl, hrow2, hbel2⟩ := hrel
          have hsz5 := hbel2.size
          have hd5 := (hbel2.block w3.heap.size (by omega)).trans HD4.out
          obtain ⟨c0, c1, c2, c3, fz⟩ := four_cells hd5
          obtain ⟨lo2, lc2, rfl⟩ := own_form hrow2
          have HROW5 : Hid (wr.ownsRow (w.heap.size + 1) 44 2 (.slice lo2 (Hd.putMs L (ms.take k2)).length lc2) (Hd.putMs L (ms.take k2)).length (pairCells (Hd.putMs L (ms.take k2)))) := hrow2
          have HBEL2 : Hid (Below w4.heap.size w4 wr) := hbel2
          clear hrow2 hbel2 hd5
          by_cases hlt2 : k2 < ms.length
          · obtain ⟨g, rfl, hg, e0, e1, e2⟩ := HMS4.out k2 hlt2
            have m0 := (HBEL2.out.cell (p := ⟨g, k2 * 3, none⟩) hg).trans e0
            have m1 := (HBEL2.out.cell (p := ⟨g, k2 * 3 + 1, none⟩) hg).trans e1
            have m2 := (HBEL2.out.cell (p := ⟨g, k2 * 3 + 2, none⟩) hg).trans e2
            have Htk : Hid (Hd.putMs L (ms.take (k2 + 1)) = Hd.putL (Hd.putMs L (ms.take k2)) (ms[k2]).key (ms[k2]).val (ms[k2]).is) := by show _ = _; rw [take_add ms k2 hlt2, Hd.putMs_snoc]
            have hll : (Hd.putMs L (ms.take k2)).length ≤ 8796093022207 := by
              have := Hd.len_putMs L (ms.take k2)
              rw [List.length_take] at this
              omega
            have hput := put_any lo2 lc2 (Hd.putMs L (ms.take k2)) (ms[k2]).key (ms[k2]).val (ms[k2]).is wr (holdsL_own HROW5.out) hll
            clear e0 e1 e2
            generalize ms[k2] = m at *
            generalize Hd.putMs L (ms.take k2) = Lk at *
            go_wp2_with fail
            refine hput.mono ?_
            rintro e w5 ⟨v5, rfl, hv5, hb5⟩
            obtain ⟨lo5, lc5, rfl⟩ := own_form hv5
            have HV5 : Hid (w5.ownsRow wr.heap.size 44 2 (.slice lo5 (Hd.putL Lk m.key m.val m.is).length lc5) (Hd.putL Lk m.key m.val m.is).length (pairCells (Hd.putL Lk m.key m.val m.is))) := hv5
            have HB5 : Hid (Below w4.heap.size w4 w5) := HBEL2.out.trans (hb5.mono hsz5)
            clear hv5 hb5 hput
            go_wp2
            go_roundw
            case rel => exact ⟨k2 + 1, by omega, by go_num, by rw [Htk.out]; exact own_mono HV5.out (by omega), HB5.out⟩
            case measure => simp [intOf]; omega
          · have et : ms.take k2 = ms := List.take_of_length_le (by omega)
            rw [et] at HROW5
            have hres5 := (HBEL2.out.block w.heap.size (by omega)).trans HRES4.out
            have r0 : wr.cell? ⟨w.heap.size, 0, none⟩ = some (.int .i64 0) := by rw [cell_of_row wr w.heap.size 0 _ 39 (0, 0) hres5]; rfl
            have r1 : wr.cell? ⟨w.heap.size, 1, none⟩ = some (.slice none 0 0) := by rw [cell_of_row wr w.heap.size 1 _ 39 (0, 0) hres5]; rfl
            have f0 : wr.frozen? ⟨w.heap.size, 0, none⟩ = false := xfree hres5 0
            have f1 : wr.frozen? ⟨w.heap.size, 1, none⟩ = false := xfree hres5 1
            obtain ⟨q0, q1⟩ := res_both hres5 (.int .i64 st) (.slice to sf.T.length tc)
            have HFIN : Hid (RefEnd w s.data.toList Ps (.returned (.tuple #[.agg #[.int .i64 st, .slice to sf.T.length tc], .slice lo2 (Hd.putMs L (ms.take k2)).length lc2, .int .i64 0])) ((wr.setCell ⟨w.heap.size, 0, none⟩ (.int .i64 st)).setCell ⟨w.heap.size, 1, none⟩ (.slice to sf.T.length tc))) := by
              refine ⟨((HB4.out.trans (HBEL2.out.mono (by omega))).setCell (p := ⟨w.heap.size, 0, none⟩) (Nat.le_refl _) _).setCell (p := ⟨w.heap.size, 1, none⟩) (Nat.le_refl _) _, fun h => absurd HO.out h, (fun _ h => by rw [HPR.out] at h; cases h), ?_⟩
              intro _ ps' hps'
              rw [HPR.out] at hps'
              injection hps' with hps'
              subst hps'
              rw [HRUN.out]
              have hll := Hd.len_putMs L ms
              rw [et]
              refine ⟨_, _, Hd.putMs L ms, rfl, Hd.up_putMs HUP.out ms, ?_, ?_, ?_, by omega, hT⟩
              · rw [Hd.ofPairs_putMs, HOF.out, HWM.out]
              · have hne := own_ge2 HROW5.out (B := w.heap.size) (by omega)
                exact own_mono (own_set (p := ⟨w.heap.size, 1, none⟩) (own_set (p := ⟨w.heap.size, 0, none⟩) HROW5.out hne _) hne _) (by omega)
              · have h5 := own_below HTV4.out HBEL2.out
                have hne := own_ge2 h5 (B := w.heap.size) (by omega)
                exact own_mono (own_set (p := ⟨w.heap.size, 1, none⟩) (own_set (p := ⟨w.heap.size, 0, none⟩) h5 hne _) hne _) (by omega)
            generalize Hd.putMs L (ms.take k2) = Lk at *
            clear hres5 et
            go_wp2
            exact bodyPost_ret (v := .tuple #[.agg #[.int .i64 st, .slice to sf.T.length tc], .slice lo2 Lk.length lc2, .int .i64 0]) (by simp [results, Try.results19, go_sem, q0, q1]) rfl HFIN.out

end Go.Proofs.Ytedbdejhpjkofaa
