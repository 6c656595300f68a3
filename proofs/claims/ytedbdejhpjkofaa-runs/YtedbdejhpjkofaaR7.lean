import Derived.Test.YtedbdejhpjkofaaR6
namespace Go.Proofs.Ytedbdejhpjkofaa
open Go.RowKit Go.Maps
set_option linter.unusedVariables false
set_option linter.unusedSimpArgs false

set_option maxRecDepth 100000 in
set_option maxHeartbeats 40000000 in
theorem executed_any (s : ByteArray) (hs : s.size ≤ 140737488351232) (ao : Option Addr) (cap : Nat) (L : List (Int × Int)) (w : World) (hL : HoldsL w ao L) (hn : L.length ≤ 8796093022207) (ps : List Nat) (hp : Hd.prog s.data.toList = some ps) (Is : List Hd.Ins) (hI : Is = Hd.insAt s.data.toList ps) (st : Int) (sf : Hd.St) (hr : Hd.runAll (Hd.ofPairs L) Is = (st, sf)) :
    Calls Try.prog 30 #[.string s, .slice ao L.length cap] w fun e w' => DoneAt w st sf e w' := by
  have hb := fun w => begins_any s w hs
  have HT : Hid (∀ k (hk : k < ps.length), ∃ t i, t = s.extract ps[k] s.size ∧ ps[k] ≤ s.size ∧ (∃ h : k < Is.length, Is[k] = i) ∧ Text t i ∧ t.size ≤ s.size) := by
    intro k hk
    have hl := insAt_len s.data.toList ps
    have hok := (prog_each hp).2 ps[k] (List.getElem_mem hk)
    have hlt := ok_lt hok
    refine ⟨_, _, rfl, by simp at hlt; omega, ⟨by rw [hI]; omega, by subst hI; exact insAt_get _ _ _ hk _⟩, text_of _ _ ?_ hok, by simp⟩
    rw [ext_list, List.take_of_length_le (by simp)]
  have HG : Hid (Good Is) := by rw [hI]; exact good_of_prog hp
  have HPS : Hid (ps.length ≤ 256) := (prog_each hp).1
  have HL2 : Hid (Is.length = ps.length) := by rw [hI]; exact insAt_len _ _
  have HR : Hid (Hd.runAll (Hd.ofPairs L) Is = (st, sf)) := hr
  clear hI hr
  have hpsi : (ps.length : Int) ≤ 256 := by have := HPS.out; omega
  have hsi : (s.size : Int) ≤ 140737488351232 := by omega
  go_enter Try.func30, Try.ntmps30
  go_wp2_with fail
  refine (hb _).mono ?_
  rintro e w1 ⟨⟨h1, _⟩, hbel1⟩
  obtain ⟨sv, rfl, hst⟩ := h1 ps hp
  clear h1 hp hb
  obtain ⟨so, sc, rfl⟩ := own_form hst
  have e1 : (w.alloc (.cells #[.int .i64 0, .slice none 0 0, .slice none 0 0, .slice none 0 0] 78)).heap.size = w.heap.size + 1 := by simp
  rw [e1] at hbel1
  have hsz1 := hbel1.size
  rw [e1] at hsz1
  have hres : w1.heap[w.heap.size]? = some (.cells #[.int .i64 0, .slice none 0 0, .slice none 0 0, .slice none 0 0] 78 (0, 0)) := by rw [hbel1.block w.heap.size (by omega), heap_alloc_new]
  have HRES : Hid (w1.heap[w.heap.size]? = some (.cells #[.int .i64 0, .slice none 0 0, .slice none 0 0, .slice none 0 0] 78 (0, 0))) := hres
  have hbw : Below w.heap.size w w1 := ((Below.refl _ w).alloc (Nat.le_refl _) _).trans (hbel1.mono (by omega))
  have HBW : Hid (Below w.heap.size w w1) := hbw
  have HL1 : Hid (HoldsL w1 ao L) := holdsL_below hL hbw
  have HST : Hid (∀ k (hk : k < ps.length), ∃ g, so = some ⟨g, 0, none⟩ ∧ g < w1.heap.size ∧ w1.cell? ⟨g, k, none⟩ = some (.int .i64 (ps[k] : Int))) := by
    intro k hk
    obtain ⟨g, h1, h2⟩ := own_cell hst k hk
    subst h1
    exact ⟨g, rfl, (hst.lt g rfl).2, h2⟩
  clear hst hbel1 hL hbw hres e1
  go_wp2
  go_loopw [9] (fun j wr => ∃ (k : Nat) (tv rv wv : Value) (R : List Int) (ms : List Hd.Mark) (sk : Hd.St), k ≤ ps.length ∧ j = .int .i64 k ∧ Mid w1 wr (Hd.ofPairs L) Is k tv rv wv R ms sk) (fun j _ => ps.length - (intOf j).toNat)
  case atStart =>
    refine ⟨0, .slice none 0 0, .slice none 0 0, .slice none 0 0, [], [], ⟨[0, 0, 0, 0, 0, 0, 0, 0], fun _ => none, [], []⟩, Nat.zero_le _, rfl, ⟨⟨?_, ?_, rfl, World.ownsRow_nil _ _ _ _, World.ownsRow_nil _ _ _ _, World.ownsRow_nil _ _ _ _, ?_, rfl, rfl, ?_, by omega, by omega, by omega⟩, Nat.le_refl _, Nat.le_refl _, Nat.le_refl _, rfl, ?_⟩⟩
    · rw [Below.heap_alloc _ _ _ (by simp)]; exact new_at w1 _ 78 _ rfl
    · exact new_at _ _ 80 _ (by simp)
    · intro k h; cases h
    · intro m h; cases h
    · exact ((Below.refl _ _).alloc (Nat.le_refl _) _).alloc (by simp) _
  case round =>
    obtain ⟨k, tv, rv, wv, R, ms, sk, hk, rfl, hmid⟩ := hrel
    have HM : Hid (Mid w1 wr (Hd.ofPairs L) Is k tv rv wv R ms sk) := hmid
    have hszr := hmid.bel.size
    have hszr2 : w1.heap.size + 1 < wr.heap.size := (Array.getElem?_eq_some_iff.1 hmid.ex.r).1
    clear hmid
    by_cases hlt : k < ps.length
    · obtain ⟨g, rfl, hg, hc⟩ := HST.out k hlt
      have hc2 : wr.cell? ⟨g, k, none⟩ = some (.int .i64 (ps[k] : Int)) := (HM.out.bel.cell (p := ⟨g, k, none⟩) hg).trans hc
      obtain ⟨t, i, ht, hpk, hki, hti, hts⟩ := HT.out k hlt
      have HKI : Hid (∃ h : k < Is.length, Is[k] = i) := hki
      have HTI : Hid (Text t i) := hti
      have hk0 : (0 : Int) ≤ (k : Int) := by omega
      have hk1 : (k : Int) < (ps.length : Int) := by omega
      have hpk0 : (0 : Int) ≤ ((ps[k] : Nat) : Int) := by omega
      have hpk1 : ((ps[k] : Nat) : Int) ≤ (s.size : Int) := by omega
      have htl : (t.size : Int) ≤ 140737488351232 := by omega
      clear hc HT HST hki hti
      generalize ps[k] = q at *
      have hx : s.extract q s.size = t := ht.symm
      clear ht
      have q0 := HTI.out.pos
      have q1 := HTI.out.kind
      have hex := HM.out.ex
      have cd0 : wr.cell? ⟨w1.heap.size, 0, none⟩ = some (.int .i64 2) := by rw [cell_of_row wr _ 0 _ 78 (0, 0) hex.d]; rfl
      have cd1 : wr.cell? ⟨w1.heap.size, 1, none⟩ = some tv := by rw [cell_of_row wr _ 1 _ 78 (0, 0) hex.d]; rfl
      have cd2 : wr.cell? ⟨w1.heap.size, 2, none⟩ = some rv := by rw [cell_of_row wr _ 2 _ 78 (0, 0) hex.d]; rfl
      have cd3 : wr.cell? ⟨w1.heap.size, 3, none⟩ = some wv := by rw [cell_of_row wr _ 3 _ 78 (0, 0) hex.d]; rfl
      have fd : ∀ a, wr.frozen? ⟨w1.heap.size, a, none⟩ = false := xfree hex.d
      have fr : ∀ a, wr.frozen? ⟨w1.heap.size + 1, a, none⟩ = false := xfree hex.r
      have hreg : Hid (∀ a, a < 8 → wr.cell? ⟨w1.heap.size + 1, a, none⟩ = some (.int .i64 (sk.rs.getD a 0))) := fun a ha => xreg hex.r a (by rw [hex.len]; exact ha)
      clear hex
      have hkn := HTI.out.known
      have hcases : i.kind = 1 ∨ i.kind = 2 ∨ i.kind = 3 ∨ i.kind = 4 ∨ i.kind = 5 ∨ i.kind = 6 ∨ i.kind = 7 ∨ i.kind = 8 ∨ i.kind = 9 ∨ i.kind = 10 ∨ i.kind = 11 := by omega
      clear hkn
      rcases hcases with hkd | hkd | hkd | hkd | hkd | hkd | hkd | hkd | hkd | hkd | hkd
      · have HKD : Hid (i.kind = 1) := hkd
        obtain ⟨q2, q3, q4⟩ := HTI.out.a (by rw [hkd]; decide)
        have q5 := HTI.out.size
        rw [hkd] at q1 q5
        have q6 : (10 : Int) ≤ (t.size : Int) := by have : Hd.size 1 = 10 := rfl; omega
        have q7 : (1 : Int) < (t.size : Int) := by omega
        have hnum := fun w => refNumber (t.extract 2 10) w (by simp; omega)
        have c8 := hreg.out i.a q4
        have qi0 : (0 : Int) ≤ (i.a : Int) := by omega
        have qi1 : (i.a : Int) < 8 := by omega
        have qm : i.a % 8 = i.a := Nat.mod_eq_of_lt q4
        clear hkd
        go_wp2_with fail
        refine (hnum _).mono ?_
        rintro e w' ⟨rfl, rfl⟩
        go_wp2
        clear qm
        go_roundw
        case rel =>
          refine ⟨k + 1, tv, rv, wv, R, ms, _, by omega, by go_num, mid_step HM.out HKI.out (by rw [HKD.out]; decide) (by rw [HKD.out]; decide) ?_ (HM.out.ex.setReg i.a _) (by omega) (by omega) (HM.out.bel.setCell (by simp) _)⟩
          unfold Hd.stepS
          have h1 := text_one HTI.out HKD.out
          rw [ext_list] at h1
          rw [if_pos HKD.out, h1, ← w64_eq]
        case measure => simp [intOf]; omega
      · as_aux_lemma =>
        have HKD : Hid (i.kind = 2) := hkd
        obtain ⟨q2, q3, q4⟩ := HTI.out.a (by rw [hkd]; decide)
        obtain ⟨p2, p3, p4⟩ := HTI.out.b (by rw [hkd]; decide)
        rw [hkd] at q1
        have q7 : (1 : Int) < (t.size : Int) := by omega
        have q8 : (2 : Int) < (t.size : Int) := by omega
        have ca := hreg.out i.a q4
        have cb := hreg.out i.b p4
        have qa0 : (0 : Int) ≤ (i.a : Int) := by omega
        have qa1 : (i.a : Int) < 8 := by omega
        have qb0 : (0 : Int) ≤ (i.b : Int) := by omega
        have qb1 : (i.b : Int) < 8 := by omega
        have HLT : Hid (R.length ≤ 256) := by have := HM.out.lr; have := HPS.out; show _ ≤ _; omega
        have HLM : Hid (ms.length ≤ 256) := by have := HM.out.lm; have := HPS.out; show _ ≤ _; omega
        have HS0 : ∀ v, Hd.seenV (Hd.ofPairs L) ms (sk.rs.getD i.b 0) = v → Hd.stepS (Hd.ofPairs L) i sk = { sk with rs := sk.rs.set i.a v, R := sk.R ++ [sk.rs.getD i.b 0] } := by
          intro v hv
          subst hv
          unfold Hd.stepS
          simp [hkd, Hd.seenV, Hd.seenB, HM.out.ex.W]
        have HS : Hid (∀ v, Hd.seenV (Hd.ofPairs L) ms (sk.rs.getD i.b 0) = v → Hd.stepS (Hd.ofPairs L) i sk = { sk with rs := sk.rs.set i.a v, R := sk.R ++ [sk.rs.getD i.b 0] }) := HS0
        have HVB : Hid (∀ x, Hd.seenB (Hd.ofPairs L) ms x = false → Hd.seenV (Hd.ofPairs L) ms x = 0) := by
          intro x hx
          unfold Hd.seenB at hx
          unfold Hd.seenV
          cases hh : Hd.lookS (Hd.ofPairs L) (Hd.marksW ms) x with
          | none => rfl
          | some y => rw [hh] at hx; cases hx
        clear HS0 hkd
        generalize sk.rs.getD i.b 0 = xb at *
        obtain ⟨o1, c1, rfl⟩ := own_form HM.out.ex.writes
        obtain ⟨o2, c2, rfl⟩ := own_form HM.out.ex.reads
        obtain ⟨i0, hi0, hz0, hz1, hz2⟩ := info_parts Try.info3
        have hsee := sees_any (.int .i64 2) tv (.slice o2 R.length c2) o1 c1 ms ao cap L xb wr (holdsM_own HM.out.ex.writes) HLM.out HM.out.ex.plain (holdsL_below HL1.out HM.out.bel) hn
        have qm : i.a % 8 = i.a := Nat.mod_eq_of_lt q4
        go_wp2_with fail
        refine hsee.mono ?_
        rintro e w5 ⟨rfl, hb5⟩
        have HVX := HVB.out xb
        generalize Hd.seenB (Hd.ofPairs L) ms xb = bb at *
        generalize Hd.seenV (Hd.ofPairs L) ms xb = vv at *
        have HV : Hid (bb = false → vv = 0) := HVX
        have hex5 := HM.out.ex.below hb5
        have HEX5 : Hid (Exec w5 (w1.heap.size + 2) w1.heap.size (w1.heap.size + 1) tv (.slice o2 R.length c2) (.slice o1 ms.length c1) R ms sk) := hex5
        obtain ⟨d0, d1, d2, d3, fd5, fr5, rg5⟩ := hex5.cells
        have ra5 := rg5 i.a q4
        have HB5 : Hid (Below w1.heap.size w1 w5) := HM.out.bel.trans (hb5.mono (by omega))
        have hsz5 := hb5.size
        clear HVX hex5 hsee hb5 rg5 qm cd0 cd1 cd2 cd3 fd fr ca cb HVB
        go_wp2_with (at_builtin; refine wpList_append_own_at _ rfl _ _ 37 rfl (w1.heap.size + 2) 3 i0 _ 1 8 Try.underlying37 hi0 hz0 hz1 hz2 rfl (by decide) _ _ _ rfl (HEX5.out.reads.alloc _) _ 1 1 [.int .i64 xb] rfl rfl ?c1 ?c2 ?c3 ?c4 ?c5 ?_)
        case c1 => exact news_new w5 [.int .i64 xb] 3
        case c2 => intro u hu; simp at hu; subst hu; rfl
        case c3 => have := HLT.out; unfold maxLen; omega
        case c4 => have := HLT.out; omega
        case c5 => simp <;> omega
        intro v' w6 hown' hgrow _ hblk
        have hexA := HEX5.out.below ((Below.refl _ w5).alloc (Nat.le_refl _) (.cells #[.int .i64 xb] 3))
        obtain ⟨hd6, hex6⟩ := hexA.read xb hgrow hown' (by rw [World.size_alloc]; exact hblk)
        have hb6 : Below w1.heap.size w1 w6 := (HB5.out.alloc (by omega) _).grown hgrow (by simp; omega) (fun j e => by have := own_ge HEX5.out.reads j e; omega)
        have HB6 : Hid (Below w1.heap.size w1 w6) := hb6
        have g1 : w6.cell? ⟨w1.heap.size, 2, none⟩ = some (.slice o2 R.length c2) := by rw [cell_of_row w6 _ 2 _ 78 (0, 0) hd6]; rfl
        have gz : w6.frozen? ⟨w1.heap.size, 2, none⟩ = false := xfree hd6 2
        obtain ⟨vo', vc', rfl⟩ := own_form hown'
        have HEX6 : Hid (Exec (w6.setCell ⟨w1.heap.size, 2, none⟩ (.slice vo' (R.length + 1) vc')) (w1.heap.size + 2) w1.heap.size (w1.heap.size + 1) tv (.slice vo' (R.length + 1) vc') (.slice o1 ms.length c1) (R ++ [xb]) ms { sk with R := sk.R ++ [xb] }) := hex6
        obtain ⟨_, _, _, _, _, fr6, rg6⟩ := hex6.cells
        have ra6 := rg6 i.a q4
        have qm : i.a % 8 = i.a := Nat.mod_eq_of_lt q4
        have qmi : (i.a : Int) % 8 = i.a := by omega
        have hsz6 := hb6.size
        clear hexA hex6 hd6 hgrow hown' hblk rg6 hb6 d0 d1 d2 d3 fd5 fr5 ra5
        have HFIN : Hid (∀ v, (vv) = v → Mid w1 ((w6.setCell ⟨w1.heap.size, 2, none⟩ (.slice vo' (R.length + 1) vc')).setCell ⟨w1.heap.size + 1, i.a, none⟩ (.int .i64 v)) (Hd.ofPairs L) Is (k + 1) tv (.slice vo' (R.length + 1) vc') (.slice o1 ms.length c1) (R ++ [xb]) ms { sk with rs := sk.rs.set i.a v, R := sk.R ++ [xb] }) := by
          intro v hv
          exact mid_step HM.out HKI.out (by rw [HKD.out]; decide) (by rw [HKD.out]; decide) (HS.out v hv) (HEX6.out.setReg i.a v) (by simp) (by omega) ((HB6.out.setCell (p := ⟨w1.heap.size, 2, none⟩) (Nat.le_refl _) _).setCell (p := ⟨w1.heap.size + 1, i.a, none⟩) (by simp) _)
        cases bb with
        | true =>
          go_wp2
          clear qm
          go_roundw
          case rel => exact ⟨k + 1, tv, _, _, _, ms, _, by omega, by go_num, HFIN.out _ rfl⟩
          case measure => simp [intOf]; omega
        | false =>
          have hv0 := HV.out rfl
          go_wp2
          clear qm
          go_roundw
          case rel => exact ⟨k + 1, tv, _, _, _, ms, _, by omega, by go_num, HFIN.out _ (by first | rfl | exact hv0)⟩
          case measure => simp [intOf]; omega
      · as_aux_lemma =>
        have HKD : Hid (i.kind = 3) := hkd
        obtain ⟨q2, q3, q4⟩ := HTI.out.a (by rw [hkd]; decide)
        obtain ⟨p2, p3, p4⟩ := HTI.out.b (by rw [hkd]; decide)
        rw [hkd] at q1
        have q7 : (1 : Int) < (t.size : Int) := by omega
        have q8 : (2 : Int) < (t.size : Int) := by omega
        have ca := hreg.out i.a q4
        have cb := hreg.out i.b p4
        have qa0 : (0 : Int) ≤ (i.a : Int) := by omega
        have qa1 : (i.a : Int) < 8 := by omega
        have qb0 : (0 : Int) ≤ (i.b : Int) := by omega
        have qb1 : (i.b : Int) < 8 := by omega
        have HLT : Hid (R.length ≤ 256) := by have := HM.out.lr; have := HPS.out; show _ ≤ _; omega
        have HLM : Hid (ms.length ≤ 256) := by have := HM.out.lm; have := HPS.out; show _ ≤ _; omega
        have HS0 : ∀ v, (if Hd.seenB (Hd.ofPairs L) ms (sk.rs.getD i.b 0) = true then (1 : Int) else 0) = v → Hd.stepS (Hd.ofPairs L) i sk = { sk with rs := sk.rs.set i.a v, R := sk.R ++ [sk.rs.getD i.b 0] } := by
          intro v hv
          subst hv
          unfold Hd.stepS
          simp [hkd, Hd.seenV, Hd.seenB, HM.out.ex.W]
        have HS : Hid (∀ v, (if Hd.seenB (Hd.ofPairs L) ms (sk.rs.getD i.b 0) = true then (1 : Int) else 0) = v → Hd.stepS (Hd.ofPairs L) i sk = { sk with rs := sk.rs.set i.a v, R := sk.R ++ [sk.rs.getD i.b 0] }) := HS0
        have HVB : Hid (∀ x, Hd.seenB (Hd.ofPairs L) ms x = false → Hd.seenV (Hd.ofPairs L) ms x = 0) := by
          intro x hx
          unfold Hd.seenB at hx
          unfold Hd.seenV
          cases hh : Hd.lookS (Hd.ofPairs L) (Hd.marksW ms) x with
          | none => rfl
          | some y => rw [hh] at hx; cases hx
        clear HS0 hkd
        generalize sk.rs.getD i.b 0 = xb at *
        obtain ⟨o1, c1, rfl⟩ := own_form HM.out.ex.writes
        obtain ⟨o2, c2, rfl⟩ := own_form HM.out.ex.reads
        obtain ⟨i0, hi0, hz0, hz1, hz2⟩ := info_parts Try.info3
        have hsee := sees_any (.int .i64 2) tv (.slice o2 R.length c2) o1 c1 ms ao cap L xb wr (holdsM_own HM.out.ex.writes) HLM.out HM.out.ex.plain (holdsL_below HL1.out HM.out.bel) hn
        have qm : i.a % 8 = i.a := Nat.mod_eq_of_lt q4
        go_wp2_with fail
        refine hsee.mono ?_
        rintro e w5 ⟨rfl, hb5⟩
        have HVX := HVB.out xb
        generalize Hd.seenB (Hd.ofPairs L) ms xb = bb at *
        generalize Hd.seenV (Hd.ofPairs L) ms xb = vv at *
        have HV : Hid (bb = false → vv = 0) := HVX
        have hex5 := HM.out.ex.below hb5
        have HEX5 : Hid (Exec w5 (w1.heap.size + 2) w1.heap.size (w1.heap.size + 1) tv (.slice o2 R.length c2) (.slice o1 ms.length c1) R ms sk) := hex5
        obtain ⟨d0, d1, d2, d3, fd5, fr5, rg5⟩ := hex5.cells
        have ra5 := rg5 i.a q4
        have HB5 : Hid (Below w1.heap.size w1 w5) := HM.out.bel.trans (hb5.mono (by omega))
        have hsz5 := hb5.size
        clear HVX hex5 hsee hb5 rg5 qm cd0 cd1 cd2 cd3 fd fr ca cb HVB
        go_wp2_with (at_builtin; refine wpList_append_own_at _ rfl _ _ 37 rfl (w1.heap.size + 2) 3 i0 _ 1 8 Try.underlying37 hi0 hz0 hz1 hz2 rfl (by decide) _ _ _ rfl (HEX5.out.reads.alloc _) _ 1 1 [.int .i64 xb] rfl rfl ?c1 ?c2 ?c3 ?c4 ?c5 ?_)
        case c1 => exact news_new w5 [.int .i64 xb] 3
        case c2 => intro u hu; simp at hu; subst hu; rfl
        case c3 => have := HLT.out; unfold maxLen; omega
        case c4 => have := HLT.out; omega
        case c5 => simp <;> omega
        intro v' w6 hown' hgrow _ hblk
        have hexA := HEX5.out.below ((Below.refl _ w5).alloc (Nat.le_refl _) (.cells #[.int .i64 xb] 3))
        obtain ⟨hd6, hex6⟩ := hexA.read xb hgrow hown' (by rw [World.size_alloc]; exact hblk)
        have hb6 : Below w1.heap.size w1 w6 := (HB5.out.alloc (by omega) _).grown hgrow (by simp; omega) (fun j e => by have := own_ge HEX5.out.reads j e; omega)
        have HB6 : Hid (Below w1.heap.size w1 w6) := hb6
        have g1 : w6.cell? ⟨w1.heap.size, 2, none⟩ = some (.slice o2 R.length c2) := by rw [cell_of_row w6 _ 2 _ 78 (0, 0) hd6]; rfl
        have gz : w6.frozen? ⟨w1.heap.size, 2, none⟩ = false := xfree hd6 2
        obtain ⟨vo', vc', rfl⟩ := own_form hown'
        have HEX6 : Hid (Exec (w6.setCell ⟨w1.heap.size, 2, none⟩ (.slice vo' (R.length + 1) vc')) (w1.heap.size + 2) w1.heap.size (w1.heap.size + 1) tv (.slice vo' (R.length + 1) vc') (.slice o1 ms.length c1) (R ++ [xb]) ms { sk with R := sk.R ++ [xb] }) := hex6
        obtain ⟨_, _, _, _, _, fr6, rg6⟩ := hex6.cells
        have ra6 := rg6 i.a q4
        have qm : i.a % 8 = i.a := Nat.mod_eq_of_lt q4
        have qmi : (i.a : Int) % 8 = i.a := by omega
        have hsz6 := hb6.size
        clear hexA hex6 hd6 hgrow hown' hblk rg6 hb6 d0 d1 d2 d3 fd5 fr5 ra5
        have HFIN : Hid (∀ v, (if bb = true then (1 : Int) else 0) = v → Mid w1 ((w6.setCell ⟨w1.heap.size, 2, none⟩ (.slice vo' (R.length + 1) vc')).setCell ⟨w1.heap.size + 1, i.a, none⟩ (.int .i64 v)) (Hd.ofPairs L) Is (k + 1) tv (.slice vo' (R.length + 1) vc') (.slice o1 ms.length c1) (R ++ [xb]) ms { sk with rs := sk.rs.set i.a v, R := sk.R ++ [xb] }) := by
          intro v hv
          exact mid_step HM.out HKI.out (by rw [HKD.out]; decide) (by rw [HKD.out]; decide) (HS.out v hv) (HEX6.out.setReg i.a v) (by simp) (by omega) ((HB6.out.setCell (p := ⟨w1.heap.size, 2, none⟩) (Nat.le_refl _) _).setCell (p := ⟨w1.heap.size + 1, i.a, none⟩) (by simp) _)
        cases bb with
        | true =>
          go_wp2
          clear qm
          go_roundw
          case rel => exact ⟨k + 1, tv, _, _, _, ms, _, by omega, by go_num, HFIN.out _ rfl⟩
          case measure => simp [intOf]; omega
        | false =>
          have hv0 := HV.out rfl
          go_wp2
          clear qm
          go_roundw
          case rel => exact ⟨k + 1, tv, _, _, _, ms, _, by omega, by go_num, HFIN.out _ (by first | rfl | exact hv0)⟩
          case measure => simp [intOf]; omega
      · as_aux_lemma =>
        have HKD : Hid (i.kind = 4) := hkd
        obtain ⟨q2, q3, q4⟩ := HTI.out.a (by rw [hkd]; decide)
        obtain ⟨p2, p3, p4⟩ := HTI.out.b (by rw [hkd]; decide)
        have q8 : (2 : Int) < (t.size : Int) := by omega
        have cb := hreg.out i.b p4
        have qb0 : (0 : Int) ≤ (i.b : Int) := by omega
        have qb1 : (i.b : Int) < 8 := by omega
        rw [hkd] at q1
        have q7 : (1 : Int) < (t.size : Int) := by omega
        have ca := hreg.out i.a q4
        have qa0 : (0 : Int) ≤ (i.a : Int) := by omega
        have qa1 : (i.a : Int) < 8 := by omega
        have HS0 : Hd.stepS (Hd.ofPairs L) i sk = { sk with W := Hd.upd sk.W (sk.rs.getD i.a 0) (some (some (sk.rs.getD i.b 0))) } := by
          unfold Hd.stepS
          simp [hkd]
        have HS : Hid (Hd.stepS (Hd.ofPairs L) i sk = { sk with W := Hd.upd sk.W (sk.rs.getD i.a 0) (some (some (sk.rs.getD i.b 0))) }) := HS0
        clear HS0 hkd
        generalize sk.rs.getD i.a 0 = xa at *
        generalize sk.rs.getD i.b 0 = xb at *
        obtain ⟨o1, c1, rfl⟩ := own_form HM.out.ex.writes
        obtain ⟨i0, hi0, hz0, hz1, hz2⟩ := info_parts Try.info75
        have HLT : Hid (ms.length ≤ 256) := by have := HM.out.lm; have := HPS.out; show _ ≤ _; omega
        have qm : i.a % 8 = i.a := Nat.mod_eq_of_lt q4
        have qmi : (i.a : Int) % 8 = i.a := by omega
        go_wp2
        have HOWN : Hid (∀ W : World, Below wr.heap.size wr W → W.ownsRow (w1.heap.size + 2) 75 3 (Value.slice o1 ms.length c1) ms.length (markCells ms)) := fun W h => own_below HM.out.ex.writes h
        have HS3 : Hid (∀ W : World, W.heap[w1.heap.size]? = wr.heap[w1.heap.size]? → W.heap[w1.heap.size + 1]? = wr.heap[w1.heap.size + 1]? → W.cell? ⟨w1.heap.size, 3, none⟩ = some (Value.slice o1 ms.length c1) ∧ W.frozen? ⟨w1.heap.size, 3, none⟩ = false ∧ W.cell? ⟨w1.heap.size + 1, i.a, none⟩ = some (.int .i64 xa) ∧ W.cell? ⟨w1.heap.size + 1, i.b, none⟩ = some (.int .i64 xb)) := by
          intro W e1 e2
          exact ⟨(World.cell?_of_block (a := ⟨w1.heap.size, 3, none⟩) e1).trans cd3, (World.frozen?_of_block (a := ⟨w1.heap.size, 3, none⟩) e1).trans (fd 3), (World.cell?_of_block (a := ⟨w1.heap.size + 1, i.a, none⟩) e2).trans ca, (World.cell?_of_block (a := ⟨w1.heap.size + 1, i.b, none⟩) e2).trans cb⟩
        have KEEP : Hid (∀ W : World, Below wr.heap.size wr W → W.cell? ⟨w1.heap.size, 3, none⟩ = some (Value.slice o1 ms.length c1) ∧ W.frozen? ⟨w1.heap.size, 3, none⟩ = false ∧ W.cell? ⟨w1.heap.size + 1, i.a, none⟩ = some (.int .i64 xa) ∧ W.cell? ⟨w1.heap.size + 1, i.b, none⟩ = some (.int .i64 xb)) := fun W h => HS3.out W (h.block _ (by omega)) (h.block _ (by omega))
        have KEEPG : Hid (∀ V W : World, Below wr.heap.size wr V → V.grownBy W ((Value.slice o1 ms.length c1)).ownBlock → W.cell? ⟨w1.heap.size, 3, none⟩ = some (Value.slice o1 ms.length c1) ∧ W.frozen? ⟨w1.heap.size, 3, none⟩ = false ∧ W.cell? ⟨w1.heap.size + 1, i.a, none⟩ = some (.int .i64 xa) ∧ W.cell? ⟨w1.heap.size + 1, i.b, none⟩ = some (.int .i64 xb)) := by
          intro V W h hg
          have hk : Keeps (fun j => ((Value.slice o1 ms.length c1)).ownBlock = some j) V W := (Keeps.refl _ V).grown hg (fun k e => .inr e)
          have hs := h.size
          exact HS3.out W ((hk.block _ (by omega) (own_ge2 HM.out.ex.writes (by omega))).trans (h.block _ (by omega))) ((hk.block _ (by omega) (own_ge2 HM.out.ex.writes (by omega))).trans (h.block _ (by omega)))
        have h63 : ms.length + 1 ≤ maxLen := by have := HLT.out; unfold maxLen; omega
        have hby : (ms.length + 1) * 24 ≤ 140737488355328 := by have := HLT.out; omega
        have HFIN : Hid (∀ (V W : World) (g' cap' : Nat), Below wr.heap.size wr V → V.grownBy W ((Value.slice o1 ms.length c1)).ownBlock → W.ownsRow (w1.heap.size + 2) 75 3 (.slice (some ⟨g', 0, none⟩) (ms.length + 1) cap') (ms.length + 1) (markCells ms ++ [.int .i64 xa, .int .i64 xb, .bool true]) →
            Mid w1 (W.setCell ⟨w1.heap.size, 3, none⟩ (.slice (some ⟨g', 0, none⟩) (ms.length + 1) cap')) (Hd.ofPairs L) Is (k + 1) tv rv (.slice (some ⟨g', 0, none⟩) (ms.length + 1) cap') R (ms ++ [⟨xa, xb, true⟩]) { sk with W := Hd.upd sk.W xa (some (some xb)) }) := by
          intro V W g' cap' hb hg ho
          have hexV := HM.out.ex.below hb
          obtain ⟨_, hex3⟩ := hexV.write ⟨xa, xb, true⟩ (by simp) hg ho
          have hbV := hb.size
          have hb3 : Below w1.heap.size w1 W := (HM.out.bel.trans (hb.mono (by omega))).grown hg (by omega) (fun j e => by have := own_ge HM.out.ex.writes j e; omega)
          exact mid_step HM.out HKI.out (by rw [HKD.out]; decide) (by rw [HKD.out]; decide) HS.out hex3 (by omega) (by simp) (hb3.setCell (p := ⟨w1.heap.size, 3, none⟩) (Nat.le_refl _) _)
        obtain ⟨v1, v2, v3, v4⟩ := KEEP.out (wr.alloc (Obj.cells #[.int .i64 xa, .int .i64 xb, .bool true] 75)).drew (by repeat (first | exact Below.refl _ _ | refine Below.alloc ?_ (by simp) _ | refine Below.drew ?_ | refine Below.drewN' ?_ _))
        go_region_law ((refine step_append_lies _ (by rfl) _ _ 76 (by rfl) (w1.heap.size + 2) 75 i0 _ 3 24 Try.underlying76 hi0 hz0 hz1 hz2 (by rfl) (by decide) (Value.slice o1 ms.length c1) ms.length (markCells ms) (by rfl) (HOWN.out _ (by repeat (first | exact Below.refl _ _ | refine Below.alloc ?_ (by simp) _ | refine Below.drew ?_ | refine Below.drewN' ?_ _))) _ 1 1 [.int .i64 xa, .int .i64 xb, .bool true] (by rfl) (by rfl) (news_new _ _ _) (by intro u hu; simp at hu; rcases hu with rfl | rfl | rfl <;> rfl) (by decide) h63 hby (by simp; omega) (wr.heap.size + 1) (by simp) ?_; intro g' cap' w3 hown3 hgrow hat hlt'; obtain ⟨s1, s2, s3, s4⟩ := KEEPG.out _ _ (by repeat (first | exact Below.refl _ _ | refine Below.alloc ?_ (by simp) _ | refine Below.drew ?_ | refine Below.drewN' ?_ _)) hgrow))
        all_goals go_wp2
        all_goals (first | go_roundw | skip)
        all_goals first
          | (exact ⟨k + 1, tv, rv, _, R, _, _, by omega, by go_num, HFIN.out _ _ _ _ (by repeat (first | exact Below.refl _ _ | refine Below.alloc ?_ (by simp) _ | refine Below.drew ?_ | refine Below.drewN' ?_ _)) hgrow hown3⟩)
          | (simp [intOf]; omega)
      · as_aux_lemma =>
        have HKD : Hid (i.kind = 5) := hkd
        obtain ⟨q2, q3, q4⟩ := HTI.out.a (by rw [hkd]; decide)
        rw [hkd] at q1
        have q7 : (1 : Int) < (t.size : Int) := by omega
        have ca := hreg.out i.a q4
        have qa0 : (0 : Int) ≤ (i.a : Int) := by omega
        have qa1 : (i.a : Int) < 8 := by omega
        have HS0 : Hd.stepS (Hd.ofPairs L) i sk = { sk with W := Hd.upd sk.W (sk.rs.getD i.a 0) (some none) } := by
          unfold Hd.stepS
          simp [hkd]
        have HS : Hid (Hd.stepS (Hd.ofPairs L) i sk = { sk with W := Hd.upd sk.W (sk.rs.getD i.a 0) (some none) }) := HS0
        clear HS0 hkd
        generalize sk.rs.getD i.a 0 = xa at *
        obtain ⟨o1, c1, rfl⟩ := own_form HM.out.ex.writes
        obtain ⟨i0, hi0, hz0, hz1, hz2⟩ := info_parts Try.info75
        have HLT : Hid (ms.length ≤ 256) := by have := HM.out.lm; have := HPS.out; show _ ≤ _; omega
        have qm : i.a % 8 = i.a := Nat.mod_eq_of_lt q4
        have qmi : (i.a : Int) % 8 = i.a := by omega
        go_wp2
        have HOWN : Hid (∀ W : World, Below wr.heap.size wr W → W.ownsRow (w1.heap.size + 2) 75 3 (Value.slice o1 ms.length c1) ms.length (markCells ms)) := fun W h => own_below HM.out.ex.writes h
        have HS3 : Hid (∀ W : World, W.heap[w1.heap.size]? = wr.heap[w1.heap.size]? → W.heap[w1.heap.size + 1]? = wr.heap[w1.heap.size + 1]? → W.cell? ⟨w1.heap.size, 3, none⟩ = some (Value.slice o1 ms.length c1) ∧ W.frozen? ⟨w1.heap.size, 3, none⟩ = false ∧ W.cell? ⟨w1.heap.size + 1, i.a, none⟩ = some (.int .i64 xa)) := by
          intro W e1 e2
          exact ⟨(World.cell?_of_block (a := ⟨w1.heap.size, 3, none⟩) e1).trans cd3, (World.frozen?_of_block (a := ⟨w1.heap.size, 3, none⟩) e1).trans (fd 3), (World.cell?_of_block (a := ⟨w1.heap.size + 1, i.a, none⟩) e2).trans ca⟩
        have KEEP : Hid (∀ W : World, Below wr.heap.size wr W → W.cell? ⟨w1.heap.size, 3, none⟩ = some (Value.slice o1 ms.length c1) ∧ W.frozen? ⟨w1.heap.size, 3, none⟩ = false ∧ W.cell? ⟨w1.heap.size + 1, i.a, none⟩ = some (.int .i64 xa)) := fun W h => HS3.out W (h.block _ (by omega)) (h.block _ (by omega))
        have KEEPG : Hid (∀ V W : World, Below wr.heap.size wr V → V.grownBy W ((Value.slice o1 ms.length c1)).ownBlock → W.cell? ⟨w1.heap.size, 3, none⟩ = some (Value.slice o1 ms.length c1) ∧ W.frozen? ⟨w1.heap.size, 3, none⟩ = false ∧ W.cell? ⟨w1.heap.size + 1, i.a, none⟩ = some (.int .i64 xa)) := by
          intro V W h hg
          have hk : Keeps (fun j => ((Value.slice o1 ms.length c1)).ownBlock = some j) V W := (Keeps.refl _ V).grown hg (fun k e => .inr e)
          have hs := h.size
          exact HS3.out W ((hk.block _ (by omega) (own_ge2 HM.out.ex.writes (by omega))).trans (h.block _ (by omega))) ((hk.block _ (by omega) (own_ge2 HM.out.ex.writes (by omega))).trans (h.block _ (by omega)))
        have h63 : ms.length + 1 ≤ maxLen := by have := HLT.out; unfold maxLen; omega
        have hby : (ms.length + 1) * 24 ≤ 140737488355328 := by have := HLT.out; omega
        have HFIN : Hid (∀ (V W : World) (g' cap' : Nat), Below wr.heap.size wr V → V.grownBy W ((Value.slice o1 ms.length c1)).ownBlock → W.ownsRow (w1.heap.size + 2) 75 3 (.slice (some ⟨g', 0, none⟩) (ms.length + 1) cap') (ms.length + 1) (markCells ms ++ [.int .i64 xa, .int .i64 0, .bool false]) →
            Mid w1 (W.setCell ⟨w1.heap.size, 3, none⟩ (.slice (some ⟨g', 0, none⟩) (ms.length + 1) cap')) (Hd.ofPairs L) Is (k + 1) tv rv (.slice (some ⟨g', 0, none⟩) (ms.length + 1) cap') R (ms ++ [⟨xa, 0, false⟩]) { sk with W := Hd.upd sk.W xa (some none) }) := by
          intro V W g' cap' hb hg ho
          have hexV := HM.out.ex.below hb
          obtain ⟨_, hex3⟩ := hexV.write ⟨xa, 0, false⟩ (by simp) hg ho
          have hbV := hb.size
          have hb3 : Below w1.heap.size w1 W := (HM.out.bel.trans (hb.mono (by omega))).grown hg (by omega) (fun j e => by have := own_ge HM.out.ex.writes j e; omega)
          exact mid_step HM.out HKI.out (by rw [HKD.out]; decide) (by rw [HKD.out]; decide) HS.out hex3 (by omega) (by simp) (hb3.setCell (p := ⟨w1.heap.size, 3, none⟩) (Nat.le_refl _) _)
        obtain ⟨v1, v2, v3⟩ := KEEP.out (wr.alloc (Obj.cells #[.int .i64 xa, .int .i64 0, .bool false] 75)).drew (by repeat (first | exact Below.refl _ _ | refine Below.alloc ?_ (by simp) _ | refine Below.drew ?_ | refine Below.drewN' ?_ _))
        go_region_law ((refine step_append_lies _ (by rfl) _ _ 76 (by rfl) (w1.heap.size + 2) 75 i0 _ 3 24 Try.underlying76 hi0 hz0 hz1 hz2 (by rfl) (by decide) (Value.slice o1 ms.length c1) ms.length (markCells ms) (by rfl) (HOWN.out _ (by repeat (first | exact Below.refl _ _ | refine Below.alloc ?_ (by simp) _ | refine Below.drew ?_ | refine Below.drewN' ?_ _))) _ 1 1 [.int .i64 xa, .int .i64 0, .bool false] (by rfl) (by rfl) (news_new _ _ _) (by intro u hu; simp at hu; rcases hu with rfl | rfl | rfl <;> rfl) (by decide) h63 hby (by simp; omega) (wr.heap.size + 1) (by simp) ?_; intro g' cap' w3 hown3 hgrow hat hlt'; obtain ⟨s1, s2, s3⟩ := KEEPG.out _ _ (by repeat (first | exact Below.refl _ _ | refine Below.alloc ?_ (by simp) _ | refine Below.drew ?_ | refine Below.drewN' ?_ _)) hgrow))
        all_goals go_wp2
        all_goals (first | go_roundw | skip)
        all_goals first
          | (exact ⟨k + 1, tv, rv, _, R, _, _, by omega, by go_num, HFIN.out _ _ _ _ (by repeat (first | exact Below.refl _ _ | refine Below.alloc ?_ (by simp) _ | refine Below.drew ?_ | refine Below.drewN' ?_ _)) hgrow hown3⟩)
          | (simp [intOf]; omega)
      · have HKD : Hid (i.kind = 6) := hkd
        obtain ⟨q2, q3, q4⟩ := HTI.out.a (by rw [hkd]; decide)
        obtain ⟨p2, p3, p4⟩ := HTI.out.b (by rw [hkd]; decide)
        obtain ⟨r2, r3, r4⟩ := HTI.out.c (by rw [hkd]; decide)
        rw [hkd] at q1
        have q7 : (1 : Int) < (t.size : Int) := by omega
        have q8 : (2 : Int) < (t.size : Int) := by omega
        have q9 : (3 : Int) < (t.size : Int) := by omega
        have ca := hreg.out i.a q4
        have cb := hreg.out i.b p4
        have cc := hreg.out i.c r4
        have qa0 : (0 : Int) ≤ (i.a : Int) := by omega
        have qa1 : (i.a : Int) < 8 := by omega
        have qb0 : (0 : Int) ≤ (i.b : Int) := by omega
        have qb1 : (i.b : Int) < 8 := by omega
        have qc0 : (0 : Int) ≤ (i.c : Int) := by omega
        have qc1 : (i.c : Int) < 8 := by omega
        have qm : i.a % 8 = i.a := Nat.mod_eq_of_lt q4
        have HS : Hid (∀ v, Hd.w64 (sk.rs.getD i.b 0 + sk.rs.getD i.c 0) = v → Hd.stepS (Hd.ofPairs L) i sk = { sk with rs := sk.rs.set i.a v }) := by
          intro v hv
          subst hv
          unfold Hd.stepS
          simp [hkd]
        clear hkd
        generalize sk.rs.getD i.b 0 = xb at *
        generalize sk.rs.getD i.c 0 = xc at *
        generalize sk.rs.getD i.a 0 = xa at *
        go_wp2
        go_region
        all_goals go_wp2
        clear qm
        go_roundw
        case rel => exact ⟨k + 1, tv, rv, wv, R, ms, _, by omega, by go_num, mid_step HM.out HKI.out (by rw [HKD.out]; decide) (by rw [HKD.out]; decide) (HS.out _ (w64_eq _).symm) ((HM.out.ex.drewN _).setReg i.a _) (by omega) (by omega) ((Below.drewN' HM.out.bel _).setCell (by simp) _)⟩
        case measure => simp [intOf]; omega
      · have HKD : Hid (i.kind = 7) := hkd
        obtain ⟨q2, q3, q4⟩ := HTI.out.a (by rw [hkd]; decide)
        obtain ⟨p2, p3, p4⟩ := HTI.out.b (by rw [hkd]; decide)
        obtain ⟨r2, r3, r4⟩ := HTI.out.c (by rw [hkd]; decide)
        rw [hkd] at q1
        have q7 : (1 : Int) < (t.size : Int) := by omega
        have q8 : (2 : Int) < (t.size : Int) := by omega
        have q9 : (3 : Int) < (t.size : Int) := by omega
        have ca := hreg.out i.a q4
        have cb := hreg.out i.b p4
        have cc := hreg.out i.c r4
        have qa0 : (0 : Int) ≤ (i.a : Int) := by omega
        have qa1 : (i.a : Int) < 8 := by omega
        have qb0 : (0 : Int) ≤ (i.b : Int) := by omega
        have qb1 : (i.b : Int) < 8 := by omega
        have qc0 : (0 : Int) ≤ (i.c : Int) := by omega
        have qc1 : (i.c : Int) < 8 := by omega
        have qm : i.a % 8 = i.a := Nat.mod_eq_of_lt q4
        have HS : Hid (∀ v, Hd.w64 (sk.rs.getD i.b 0 - sk.rs.getD i.c 0) = v → Hd.stepS (Hd.ofPairs L) i sk = { sk with rs := sk.rs.set i.a v }) := by
          intro v hv
          subst hv
          unfold Hd.stepS
          simp [hkd]
        clear hkd
        generalize sk.rs.getD i.b 0 = xb at *
        generalize sk.rs.getD i.c 0 = xc at *
        generalize sk.rs.getD i.a 0 = xa at *
        go_wp2
        go_region
        all_goals go_wp2
        clear qm
        go_roundw
        case rel => exact ⟨k + 1, tv, rv, wv, R, ms, _, by omega, by go_num, mid_step HM.out HKI.out (by rw [HKD.out]; decide) (by rw [HKD.out]; decide) (HS.out _ (w64_eq _).symm) ((HM.out.ex.drewN _).setReg i.a _) (by omega) (by omega) ((Below.drewN' HM.out.bel _).setCell (by simp) _)⟩
        case measure => simp [intOf]; omega
      · have HKD : Hid (i.kind = 8) := hkd
        obtain ⟨q2, q3, q4⟩ := HTI.out.a (by rw [hkd]; decide)
        obtain ⟨p2, p3, p4⟩ := HTI.out.b (by rw [hkd]; decide)
        obtain ⟨r2, r3, r4⟩ := HTI.out.c (by rw [hkd]; decide)
        rw [hkd] at q1
        have q7 : (1 : Int) < (t.size : Int) := by omega
        have q8 : (2 : Int) < (t.size : Int) := by omega
        have q9 : (3 : Int) < (t.size : Int) := by omega
        have ca := hreg.out i.a q4
        have cb := hreg.out i.b p4
        have cc := hreg.out i.c r4
        have qa0 : (0 : Int) ≤ (i.a : Int) := by omega
        have qa1 : (i.a : Int) < 8 := by omega
        have qb0 : (0 : Int) ≤ (i.b : Int) := by omega
        have qb1 : (i.b : Int) < 8 := by omega
        have qc0 : (0 : Int) ≤ (i.c : Int) := by omega
        have qc1 : (i.c : Int) < 8 := by omega
        have qm : i.a % 8 = i.a := Nat.mod_eq_of_lt q4
        have HS : Hid (∀ v, Hd.w64 (sk.rs.getD i.b 0 * sk.rs.getD i.c 0) = v → Hd.stepS (Hd.ofPairs L) i sk = { sk with rs := sk.rs.set i.a v }) := by
          intro v hv
          subst hv
          unfold Hd.stepS
          simp [hkd]
        clear hkd
        generalize sk.rs.getD i.b 0 = xb at *
        generalize sk.rs.getD i.c 0 = xc at *
        generalize sk.rs.getD i.a 0 = xa at *
        go_wp2
        go_region
        all_goals go_wp2
        clear qm
        go_roundw
        case rel => exact ⟨k + 1, tv, rv, wv, R, ms, _, by omega, by go_num, mid_step HM.out HKI.out (by rw [HKD.out]; decide) (by rw [HKD.out]; decide) (HS.out _ (w64_eq _).symm) ((HM.out.ex.drewN _).setReg i.a _) (by omega) (by omega) ((Below.drewN' HM.out.bel _).setCell (by simp) _)⟩
        case measure => simp [intOf]; omega
      · have HKD : Hid (i.kind = 9) := hkd
        obtain ⟨q2, q3, q4⟩ := HTI.out.a (by rw [hkd]; decide)
        obtain ⟨p2, p3, p4⟩ := HTI.out.b (by rw [hkd]; decide)
        obtain ⟨r2, r3, r4⟩ := text_nine HTI.out hkd
        rw [hkd] at q1
        have q7 : (1 : Int) < (t.size : Int) := by omega
        have q8 : (2 : Int) < (t.size : Int) := by omega
        have q9 : (3 : Int) < (t.size : Int) := by omega
        have ca := hreg.out i.a q4
        have cb := hreg.out i.b p4
        have qa0 : (0 : Int) ≤ (i.a : Int) := by omega
        have qa1 : (i.a : Int) < 8 := by omega
        have qb0 : (0 : Int) ≤ (i.b : Int) := by omega
        have qb1 : (i.b : Int) < 8 := by omega
        have qn0 : (0 : Int) ≤ (i.num : Int) := by omega
        have qn1 : (i.num : Int) < 256 := by omega
        have HX : Hid (i.num + k + 1 ≤ ps.length) := by
          obtain ⟨h1, h2⟩ := HKI.out
          have h3 := HG.out.less k h1 (by rw [h2]; exact hkd)
          rw [h2] at h3
          have := HL2.out
          show i.num + k + 1 ≤ ps.length
          omega
        have qm : i.a % 8 = i.a := Nat.mod_eq_of_lt q4
        by_cases hl : sk.rs.getD i.a 0 < sk.rs.getD i.b 0
        · have HS : Hid (∀ n, Mid w1 (wr.drewN n) (Hd.ofPairs L) Is (k + i.num + 1) tv rv wv R ms sk) := mid_less HM.out HKI.out hkd hl
          clear hkd
          generalize sk.rs.getD i.b 0 = xb at *
          generalize sk.rs.getD i.a 0 = xa at *
          go_wp2
          go_quiet (fail)
          go_wp2
          clear qm
          go_roundw
          case rel => exact ⟨k + i.num + 1, tv, rv, wv, R, ms, _, by have := HX.out; omega, by go_num, HS.out _⟩
          case measure => simp [intOf]; have := HX.out; omega
        · have HS : Hid (∀ n, Mid w1 (wr.drewN n) (Hd.ofPairs L) Is (k + 1) tv rv wv R ms sk) := mid_not HM.out HKI.out hkd hl
          clear hkd
          generalize sk.rs.getD i.b 0 = xb at *
          generalize sk.rs.getD i.a 0 = xa at *
          go_wp2
          go_quiet (fail)
          go_wp2
          clear qm
          go_roundw
          case rel => exact ⟨k + 1, tv, rv, wv, R, ms, _, by omega, by go_num, HS.out _⟩
          case measure => simp [intOf]; omega
      · as_aux_lemma =>
        have HKD : Hid (i.kind = 10) := hkd
        obtain ⟨q2, q3, q4⟩ := HTI.out.a (by rw [hkd]; decide)
        rw [hkd] at q1
        have q7 : (1 : Int) < (t.size : Int) := by omega
        have ca := hreg.out i.a q4
        have qa0 : (0 : Int) ≤ (i.a : Int) := by omega
        have qa1 : (i.a : Int) < 8 := by omega
        have HS0 : Hd.stepS (Hd.ofPairs L) i sk = { sk with T := sk.T ++ [sk.rs.getD i.a 0] } := by
          unfold Hd.stepS
          simp [hkd]
        have HS : Hid (Hd.stepS (Hd.ofPairs L) i sk = { sk with T := sk.T ++ [sk.rs.getD i.a 0] }) := HS0
        clear HS0 hkd
        generalize sk.rs.getD i.a 0 = xa at *
        obtain ⟨o1, c1, rfl⟩ := own_form HM.out.ex.told
        obtain ⟨i0, hi0, hz0, hz1, hz2⟩ := info_parts Try.info3
        have HLT : Hid (sk.T.length ≤ 256) := by have := HM.out.lt; have := HPS.out; show _ ≤ _; omega
        have qm : i.a % 8 = i.a := Nat.mod_eq_of_lt q4
        have qmi : (i.a : Int) % 8 = i.a := by omega
        go_wp2
        have HOWN : Hid (∀ W : World, Below wr.heap.size wr W → W.ownsRow (w1.heap.size + 2) 3 1 (Value.slice o1 sk.T.length c1) sk.T.length (sk.T.map (Value.int .i64))) := fun W h => own_below HM.out.ex.told h
        have HS3 : Hid (∀ W : World, W.heap[w1.heap.size]? = wr.heap[w1.heap.size]? → W.heap[w1.heap.size + 1]? = wr.heap[w1.heap.size + 1]? → W.cell? ⟨w1.heap.size, 1, none⟩ = some (Value.slice o1 sk.T.length c1) ∧ W.frozen? ⟨w1.heap.size, 1, none⟩ = false ∧ W.cell? ⟨w1.heap.size + 1, i.a, none⟩ = some (.int .i64 xa)) := by
          intro W e1 e2
          exact ⟨(World.cell?_of_block (a := ⟨w1.heap.size, 1, none⟩) e1).trans cd1, (World.frozen?_of_block (a := ⟨w1.heap.size, 1, none⟩) e1).trans (fd 1), (World.cell?_of_block (a := ⟨w1.heap.size + 1, i.a, none⟩) e2).trans ca⟩
        have KEEP : Hid (∀ W : World, Below wr.heap.size wr W → W.cell? ⟨w1.heap.size, 1, none⟩ = some (Value.slice o1 sk.T.length c1) ∧ W.frozen? ⟨w1.heap.size, 1, none⟩ = false ∧ W.cell? ⟨w1.heap.size + 1, i.a, none⟩ = some (.int .i64 xa)) := fun W h => HS3.out W (h.block _ (by omega)) (h.block _ (by omega))
        have KEEPG : Hid (∀ V W : World, Below wr.heap.size wr V → V.grownBy W ((Value.slice o1 sk.T.length c1)).ownBlock → W.cell? ⟨w1.heap.size, 1, none⟩ = some (Value.slice o1 sk.T.length c1) ∧ W.frozen? ⟨w1.heap.size, 1, none⟩ = false ∧ W.cell? ⟨w1.heap.size + 1, i.a, none⟩ = some (.int .i64 xa)) := by
          intro V W h hg
          have hk : Keeps (fun j => ((Value.slice o1 sk.T.length c1)).ownBlock = some j) V W := (Keeps.refl _ V).grown hg (fun k e => .inr e)
          have hs := h.size
          exact HS3.out W ((hk.block _ (by omega) (own_ge2 HM.out.ex.told (by omega))).trans (h.block _ (by omega))) ((hk.block _ (by omega) (own_ge2 HM.out.ex.told (by omega))).trans (h.block _ (by omega)))
        have h63 : sk.T.length + 1 ≤ maxLen := by have := HLT.out; unfold maxLen; omega
        have hby : (sk.T.length + 1) * 8 ≤ 140737488355328 := by have := HLT.out; omega
        have HFIN : Hid (∀ (V W : World) (g' cap' : Nat), Below wr.heap.size wr V → V.heap.size = wr.heap.size + 1 → V.grownBy W (Value.slice o1 sk.T.length c1).ownBlock → W.ownsRow (w1.heap.size + 2) 3 1 (.slice (some ⟨g', 0, none⟩) (sk.T.length + 1) cap') (sk.T.length + 1) (sk.T.map (Value.int .i64) ++ [.int .i64 xa]) → ((Value.slice o1 sk.T.length c1).ownBlock = some g' ∨ g' = wr.heap.size + 1) →
            Mid w1 (W.setCell ⟨w1.heap.size, 1, none⟩ (.slice (some ⟨g', 0, none⟩) (sk.T.length + 1) cap')) (Hd.ofPairs L) Is (k + 1) (.slice (some ⟨g', 0, none⟩) (sk.T.length + 1) cap') rv wv R ms { sk with T := sk.T ++ [xa] }) := by
          intro V W g' cap' hb hv hg ho hat
          have hexV := HM.out.ex.below hb
          obtain ⟨_, hex3⟩ := hexV.tell xa hg ho (by
            rcases hat with h | h
            · exact .inl h.symm
            · right; rw [hv]; subst h; rfl)
          have hbV := hb.size
          have hb3 : Below w1.heap.size w1 W := (HM.out.bel.trans (hb.mono (by omega))).grown hg (by omega) (fun j e => by have := own_ge HM.out.ex.told j e; omega)
          exact mid_step HM.out HKI.out (by rw [HKD.out]; decide) (by rw [HKD.out]; decide) HS.out hex3 (by omega) (by omega) (hb3.setCell (p := ⟨w1.heap.size, 1, none⟩) (Nat.le_refl _) _)
        obtain ⟨v1, v2, v3⟩ := KEEP.out (wr.alloc (Obj.cells #[.int .i64 xa] 3)).drew (by repeat (first | exact Below.refl _ _ | refine Below.alloc ?_ (by simp) _ | refine Below.drew ?_ | refine Below.drewN' ?_ _))
        go_region_law ((refine step_append_lies _ (by rfl) _ _ 37 (by rfl) (w1.heap.size + 2) 3 i0 _ 1 8 Try.underlying37 hi0 hz0 hz1 hz2 (by rfl) (by decide) (Value.slice o1 sk.T.length c1) sk.T.length (sk.T.map (Value.int .i64)) (by rfl) (HOWN.out _ (by repeat (first | exact Below.refl _ _ | refine Below.alloc ?_ (by simp) _ | refine Below.drew ?_ | refine Below.drewN' ?_ _))) _ 1 1 [.int .i64 xa] (by rfl) (by rfl) (news_new _ _ _) (by intro u hu; simp at hu; first | (subst hu; rfl) | (rcases hu with rfl | rfl | rfl <;> rfl)) (by decide) h63 hby (by simp; omega) (wr.heap.size + 1) (by simp) ?_; intro g' cap' w3 hown3 hgrow hat hlt'; obtain ⟨s1, s2, s3⟩ := KEEPG.out _ _ (by repeat (first | exact Below.refl _ _ | refine Below.alloc ?_ (by simp) _ | refine Below.drew ?_ | refine Below.drewN' ?_ _)) hgrow))
        all_goals go_wp2
        all_goals (first | go_roundw | skip)
        all_goals first
          | (exact ⟨k + 1, _, rv, wv, R, ms, _, by omega, by go_num, HFIN.out _ _ _ _ (by repeat (first | exact Below.refl _ _ | refine Below.alloc ?_ (by simp) _ | refine Below.drew ?_ | refine Below.drewN' ?_ _)) (by simp) hgrow hown3 hat⟩)
          | (simp [intOf]; omega)
      · have HKD : Hid (i.kind = 11) := hkd
        rw [hkd] at q1
        clear hkd
        have hres := (HM.out.bel.block w.heap.size (by omega)).trans HRES.out
        have hres2 : ((wr.setCell ⟨w1.heap.size, 0, none⟩ (.int .i64 3)).setCell ⟨w1.heap.size, 3, none⟩ (.slice none 0 0)).heap[w.heap.size]? = some (.cells #[.int .i64 0, .slice none 0 0, .slice none 0 0, .slice none 0 0] 78 (0, 0)) := by
          rw [Below.heap_setCell _ _ _ _ (fun e : w.heap.size = w1.heap.size => by omega), Below.heap_setCell _ _ _ _ (fun e : w.heap.size = w1.heap.size => by omega)]; exact hres
        obtain ⟨o1, c1, rfl⟩ := own_form HM.out.ex.told
        obtain ⟨o2, c2, rfl⟩ := own_form HM.out.ex.reads
        obtain ⟨o3, c3, rfl⟩ := own_form HM.out.ex.writes
        obtain ⟨z0, z1, z2, z3, z4, z5, z6, z7, z8⟩ := res4 hres2 (.int .i64 3) (.slice o1 sk.T.length c1) (.slice o2 R.length c2) (.slice none 0 0)
        have hne1 : ¬ w.heap.size = w1.heap.size := by omega
        have hne2 : ¬ w1.heap.size = w.heap.size := by omega
        have y0 := cell_of_row _ w.heap.size 0 _ 78 (0, 0) z8.out
        have y1 := cell_of_row _ w.heap.size 1 _ 78 (0, 0) z8.out
        have y2 := cell_of_row _ w.heap.size 2 _ 78 (0, 0) z8.out
        have y3 := cell_of_row _ w.heap.size 3 _ 78 (0, 0) z8.out
        have HLT : Hid (sk.T.length ≤ 256) := by have := HM.out.lt; have := HPS.out; show _ ≤ _; omega
        have HLR : Hid (sk.R.length ≤ 256) := by have := HM.out.lr; have := HPS.out; rw [HM.out.ex.hR]; show _ ≤ _; omega
        have HF : Hid (st = 3 ∧ sf = { sk with W := fun _ => none }) := by
          have h := HR.out
          obtain ⟨h1, h2⟩ := HKI.out
          obtain ⟨f, hf⟩ : ∃ f, Is.length - k = f + 1 := ⟨Is.length - k - 1, by omega⟩
          rw [HM.out.run, hf, Hd.run_abort _ Is f k sk h1 (by rw [h2]; exact HKD.out)] at h
          simp only [Prod.mk.injEq] at h
          exact ⟨h.1.symm, h.2.symm⟩
        clear hres hres2
        by_cases q2 : 1 < t.size
        · have q7 : (1 : Int) < (t.size : Int) := by omega
          go_wp2
          refine bodyPost_ret (v := .agg #[.int .i64 3, .slice o1 sk.T.length c1, .slice o2 R.length c2, .slice none 0 0]) (by simp [results, Try.results30, go_sem, y0, y1, y2, y3]) rfl ?_
          obtain ⟨rfl, rfl⟩ := HF.out
          refine ⟨_, _, _, [], rfl, ?_, World.ownsRow_nil _ _ _ _, rfl, by decide, HLT.out, ?_, ?_, HLR.out, fun m h => by cases h⟩
          · exact own_mono (own_set_lt (own_set_lt (own_set_lt (own_set_lt (own_set_lt (own_set_lt HM.out.ex.told ⟨w1.heap.size, 0, none⟩ _ (by simp)) ⟨w1.heap.size, 3, none⟩ _ (by simp)) ⟨w.heap.size, 0, none⟩ _ (by simp; omega)) ⟨w.heap.size, 1, none⟩ _ (by simp; omega)) ⟨w.heap.size, 2, none⟩ _ (by simp; omega)) ⟨w.heap.size, 3, none⟩ _ (by simp; omega)) (by omega)
          · exact ((((((HBW.out.trans (HM.out.bel.mono (by omega))).setCell (p := ⟨w1.heap.size, 0, none⟩) (by simp; omega) _).setCell (p := ⟨w1.heap.size, 3, none⟩) (by simp; omega) _).setCell (p := ⟨w.heap.size, 0, none⟩) (by simp) _).setCell (p := ⟨w.heap.size, 1, none⟩) (by simp) _).setCell (p := ⟨w.heap.size, 2, none⟩) (by simp) _).setCell (p := ⟨w.heap.size, 3, none⟩) (by simp) _
          · have h := own_mono (base' := w.heap.size) (own_set_lt (own_set_lt (own_set_lt (own_set_lt (own_set_lt (own_set_lt HM.out.ex.reads ⟨w1.heap.size, 0, none⟩ (.int .i64 3) (by simp)) ⟨w1.heap.size, 3, none⟩ (.slice none 0 0) (by simp)) ⟨w.heap.size, 0, none⟩ (.int .i64 3) (by simp; omega)) ⟨w.heap.size, 1, none⟩ (.slice o1 sk.T.length c1) (by simp; omega)) ⟨w.heap.size, 2, none⟩ (.slice o2 R.length c2) (by simp; omega)) ⟨w.heap.size, 3, none⟩ (.slice none 0 0) (by simp; omega)) (by omega)
            rw [← HM.out.ex.hR] at h ⊢
            exact h
        · have q7 : ¬ (1 : Int) < (t.size : Int) := by omega
          go_wp2
          refine bodyPost_ret (v := .agg #[.int .i64 3, .slice o1 sk.T.length c1, .slice o2 R.length c2, .slice none 0 0]) (by simp [results, Try.results30, go_sem, y0, y1, y2, y3]) rfl ?_
          obtain ⟨rfl, rfl⟩ := HF.out
          refine ⟨_, _, _, [], rfl, ?_, World.ownsRow_nil _ _ _ _, rfl, by decide, HLT.out, ?_, ?_, HLR.out, fun m h => by cases h⟩
          · exact own_mono (own_set_lt (own_set_lt (own_set_lt (own_set_lt (own_set_lt (own_set_lt HM.out.ex.told ⟨w1.heap.size, 0, none⟩ _ (by simp)) ⟨w1.heap.size, 3, none⟩ _ (by simp)) ⟨w.heap.size, 0, none⟩ _ (by simp; omega)) ⟨w.heap.size, 1, none⟩ _ (by simp; omega)) ⟨w.heap.size, 2, none⟩ _ (by simp; omega)) ⟨w.heap.size, 3, none⟩ _ (by simp; omega)) (by omega)
          · exact ((((((HBW.out.trans (HM.out.bel.mono (by omega))).setCell (p := ⟨w1.heap.size, 0, none⟩) (by simp; omega) _).setCell (p := ⟨w1.heap.size, 3, none⟩) (by simp; omega) _).setCell (p := ⟨w.heap.size, 0, none⟩) (by simp) _).setCell (p := ⟨w.heap.size, 1, none⟩) (by simp) _).setCell (p := ⟨w.heap.size, 2, none⟩) (by simp) _).setCell (p := ⟨w.heap.size, 3, none⟩) (by simp) _
          · have h := own_mono (base' := w.heap.size) (own_set_lt (own_set_lt (own_set_lt (own_set_lt (own_set_lt (own_set_lt HM.out.ex.reads ⟨w1.heap.size, 0, none⟩ (.int .i64 3) (by simp)) ⟨w1.heap.size, 3, none⟩ (.slice none 0 0) (by simp)) ⟨w.heap.size, 0, none⟩ (.int .i64 3) (by simp; omega)) ⟨w.heap.size, 1, none⟩ (.slice o1 sk.T.length c1) (by simp; omega)) ⟨w.heap.size, 2, none⟩ (.slice o2 R.length c2) (by simp; omega)) ⟨w.heap.size, 3, none⟩ (.slice none 0 0) (by simp; omega)) (by omega)
            rw [← HM.out.ex.hR] at h ⊢
            exact h
    · as_aux_lemma =>
      have hkk : k = ps.length := by omega
      have HF : Hid (st = 2 ∧ sf = sk) := by
        have h := HR.out
        rw [HM.out.run, Hd.run_end _ Is _ k sk (by rw [HL2.out]; omega)] at h
        simp only [Prod.mk.injEq] at h
        exact ⟨h.1.symm, h.2.symm⟩
      have HLT : Hid (sk.T.length ≤ 256) := by have := HM.out.lt; have := HPS.out; show _ ≤ _; omega
      have HLR : Hid (sk.R.length ≤ 256) := by have := HM.out.lr; have := HPS.out; rw [HM.out.ex.hR]; show _ ≤ _; omega
      have HLM : Hid (ms.length ≤ 256) := by have := HM.out.lm; have := HPS.out; show _ ≤ _; omega
      have hres := (HM.out.bel.block w.heap.size (by omega)).trans HRES.out
      obtain ⟨o1, c1, rfl⟩ := own_form HM.out.ex.told
      obtain ⟨o2, c2, rfl⟩ := own_form HM.out.ex.reads
      obtain ⟨o3, c3, rfl⟩ := own_form HM.out.ex.writes
      obtain ⟨z0, z1, z2, z3, z4, z5, z6, z7, z8⟩ := res4 hres (.int .i64 2) (.slice o1 sk.T.length c1) (.slice o2 R.length c2) (.slice o3 ms.length c3)
      have y0 := cell_of_row _ w.heap.size 0 _ 78 (0, 0) z8.out
      have y1 := cell_of_row _ w.heap.size 1 _ 78 (0, 0) z8.out
      have y2 := cell_of_row _ w.heap.size 2 _ 78 (0, 0) z8.out
      have y3 := cell_of_row _ w.heap.size 3 _ 78 (0, 0) z8.out
      obtain ⟨d0, d1, d2, d3, fd5, fr5, rg5⟩ := HM.out.ex.cells
      clear hres rg5 HST HT
      go_wp2
      refine bodyPost_ret (v := .agg #[.int .i64 2, .slice o1 sk.T.length c1, .slice o2 R.length c2, .slice o3 ms.length c3]) (by simp [results, Try.results30, go_sem, y0, y1, y2, y3]) rfl ?_
      obtain ⟨rfl, rfl⟩ := HF.out
      refine ⟨_, _, _, ms, rfl, ?_, ?_, HM.out.ex.W, HLM.out, HLT.out, ?_, ?_, HLR.out, HM.out.ex.plain⟩
      · exact own_mono (own_set_lt (own_set_lt (own_set_lt (own_set_lt HM.out.ex.told ⟨w.heap.size, 0, none⟩ _ (by simp; omega)) ⟨w.heap.size, 1, none⟩ _ (by simp; omega)) ⟨w.heap.size, 2, none⟩ _ (by simp; omega)) ⟨w.heap.size, 3, none⟩ _ (by simp; omega)) (by omega)
      · exact own_mono (own_set_lt (own_set_lt (own_set_lt (own_set_lt HM.out.ex.writes ⟨w.heap.size, 0, none⟩ _ (by simp; omega)) ⟨w.heap.size, 1, none⟩ _ (by simp; omega)) ⟨w.heap.size, 2, none⟩ _ (by simp; omega)) ⟨w.heap.size, 3, none⟩ _ (by simp; omega)) (by omega)
      · exact ((((HBW.out.trans (HM.out.bel.mono (by omega))).setCell (p := ⟨w.heap.size, 0, none⟩) (by simp) _).setCell (p := ⟨w.heap.size, 1, none⟩) (by simp) _).setCell (p := ⟨w.heap.size, 2, none⟩) (by simp) _).setCell (p := ⟨w.heap.size, 3, none⟩) (by simp) _
      · have h := own_mono (base' := w.heap.size) (own_set_lt (own_set_lt (own_set_lt (own_set_lt HM.out.ex.reads ⟨w.heap.size, 0, none⟩ (.int .i64 2) (by simp; omega)) ⟨w.heap.size, 1, none⟩ (.slice o1 sf.T.length c1) (by simp; omega)) ⟨w.heap.size, 2, none⟩ (.slice o2 R.length c2) (by simp; omega)) ⟨w.heap.size, 3, none⟩ (.slice o3 ms.length c3) (by simp; omega)) (by omega)
        rw [← HM.out.ex.hR] at h ⊢
        exact h

end Go.Proofs.Ytedbdejhpjkofaa
