import Derived.Test.YtedbdejhpjkofaaU4
namespace Go.Proofs.Ytedbdejhpjkofaa
open Go.RowKit Go.Maps
set_option linter.unusedVariables false
set_option linter.unusedSimpArgs false

theorem clear_own {w : World} {b n : Nat} {D : DU} (h : ownC w b n D) : ∃ w', (∀ ty : TypeId, (Builtin.clear_ #[59] ty #[.map (some b)]).run Try.prog w = .ok (.tuple #[]) w') ∧ ownC w' b 0 (.map []) ∧ w.grownBy w' (some b) := by
  obtain ⟨es, clock, hb, F, hs, hD⟩ := h
  have hlt : b < w.heap.size := (Array.getElem?_eq_some_iff.1 hb).1
  refine ⟨{ w with heap := w.heap.setIfInBounds b (.map #[] clock) }, ?_, ?_, ?_⟩
  · intro ty
    simp [Builtin.clear_, run_underlying Try.underlying59, MapKept.run_getObj_map hb, MapKept.run_setObj_map _ hb, Result.andThen]
  · exact ⟨#[], clock, by simp [hlt], ⟨by simp, MapKept.stamped_empty _, by simp⟩, Nat.le_refl _, rfl⟩
  · refine ⟨rfl, rfl, rfl, by simp, fun k hk hne => ?_⟩
    have hne' : b ≠ k := fun e => hne (by rw [e])
    simp [Array.getElem?_setIfInBounds, hne']

theorem keeps_step {S T : Nat → Prop} {a b c : World} (h : Keeps S a b) (k : Keeps T b c) (hT : ∀ j, j < a.heap.size → T j → S j) : Keeps S a c :=
  ⟨k.os.trans h.os, k.tape.trans h.tape, k.output.trans h.output, Nat.le_trans h.size k.size, fun i hi hs => (k.block i (Nat.lt_of_lt_of_le hi h.size) (fun ht => hs (hT i hi ht))).trans (h.block i hi hs)⟩

/-- what a procedure's instructions are -/
structure Good (Is : List Hd.Ins) : Prop where
  few : Is.length ≤ 256
  regs : ∀ i (h : i < Is.length), (Is[i]).a < 8 ∧ (Is[i]).b < 8 ∧ (Is[i]).c < 8
  kinds : ∀ i (h : i < Is.length), Hd.known (Is[i]).kind = true
  less : ∀ i (h : i < Is.length), (Is[i]).kind = 9 → (Is[i]).num + i + 1 ≤ Is.length

theorem Mach.keep {w w' : World} {base bm bs bw nS nW : Nat} {tv rv : Value} {S : Int → Option Int} {s : Hd.St} {T : Nat → Prop} (h : Mach w base bm bs bw nS nW tv rv S s) (hk : Keeps T w w') (h1 : ¬ T bm) (h2 : ¬ T bs) (h3 : ¬ T bw) (h4 : ∀ k, tv.ownBlock = some k → ¬ T k) (h5 : ∀ k, rv.ownBlock = some k → ¬ T k) : Mach w' base bm bs bw nS nW tv rv S s := by
  obtain ⟨D, hD, vD⟩ := h.snap
  obtain ⟨E, hE, vE⟩ := h.wrt
  exact ⟨h.len, h.wfr, m_later h.blk hk h1, own_keeps h.told hk h4, own_keeps h.reads hk h5, h.apart, ⟨D, ownI_keeps hD hk h2, vD⟩, ⟨E, ownC_keeps hE hk h3, vE⟩, h.wfS, h.wfW, h.n1, h.n2, h.n3⟩

/-- how run ends -/
def RunEnd (w : World) (bm bs bw nS : Nat) (S : Int → Option Int) (Is : List Hd.Ins) (e : Ending) (w' : World) : Prop :=
  e = .returned (.int .i64 (Hd.runAll S Is).1) ∧ ∃ tv rv nW, nW ≤ 256 ∧ Mach w' w.heap.size bm bs bw nS nW tv rv S (Hd.runAll S Is).2 ∧ (Hd.runAll S Is).2.T.length ≤ 256 ∧ (Hd.runAll S Is).2.R.length ≤ 256 ∧ Keeps (fun k => k = bm ∨ k = bw) w w'

set_option maxRecDepth 100000 in
set_option maxHeartbeats 2000000 in
theorem run_any (w : World) (bm bs bw nS g cap : Nat) (S : Int → Option Int) (Is : List Hd.Ins) (hG : Good Is) (hg : g < w.heap.size) (hgm : g ≠ bm) (hgw : g ≠ bw) (hH : HoldsI w g Is)
    (hM : Mach w w.heap.size bm bs bw nS 0 (.slice none 0 0) (.slice none 0 0) S ⟨[0, 0, 0, 0, 0, 0, 0, 0], fun _ => none, [], []⟩) :
    Calls Try.prog 33 #[.pointer (some ⟨bm, 0, none⟩), .slice (some ⟨g, 0, none⟩) Is.length cap] w fun e w' => RunEnd w bm bs bw nS S Is e w' := by
  have hfew := hG.few
  go_enter Try.func33, Try.ntmps33
  go_wp2
  go_loopw [5] (fun a wr => ∃ (p : Nat) (s : Hd.St) (tv rv : Value) (nW : Nat), a = .int .i64 p ∧ p ≤ Is.length ∧ Mach wr w.heap.size bm bs bw nS nW tv rv S s ∧ Hd.runAll S Is = Hd.runS S Is (Is.length - p) p s ∧ nW ≤ p ∧ (s.T.length ≤ p ∧ s.R.length ≤ p) ∧ Keeps (fun k => k = bm ∨ k = bw) w wr) (fun a _ => Is.length - (intOf a).toNat)
  case atStart => exact ⟨0, _, _, _, 0, rfl, Nat.zero_le _, hM, rfl, Nat.zero_le _, ⟨by simp, by simp⟩, Keeps.refl _ _⟩
  case round =>
    obtain ⟨p, s, tv, rv, nW, rfl, hp, hm, hrun, hn, hT, hk⟩ := hrel
    have HM : Hid (Mach wr w.heap.size bm bs bw nS nW tv rv S s) := hm
    have HR : Hid (Hd.runAll S Is = Hd.runS S Is (Is.length - p) p s) := hrun
    have HK : Hid (Keeps (fun k => k = bm ∨ k = bw) w wr) := hk
    have HT : Hid (s.T.length ≤ p ∧ s.R.length ≤ p) := hT
    have hsz := hk.size
    by_cases hlt : p < Is.length
    · obtain ⟨d0, d1, d2, d3, d4⟩ := holds_keeps hH hk hg (fun h => h.elim hgm hgw) p hlt
      obtain ⟨ra, rb, rc⟩ := hG.regs p hlt
      have hkn := hG.kinds p hlt
      have hle := hG.less p hlt
      have Habort : Hid _ := Hd.run_abort S Is (Is.length - p - 1) p s hlt
      have Hless : Hid _ := Hd.run_less S Is (Is.length - p - 1) p s hlt
      have Hnot : Hid _ := Hd.run_not S Is (Is.length - p - 1) p s hlt
      have Hstep : Hid _ := Hd.run_step S Is (Is.length - p - 1) p s hlt
      have ef : Is.length - p - 1 + 1 = Is.length - p := by omega
      rw [ef] at Habort Hless Hnot Hstep
      clear hm hrun hk hT hM ef
      generalize Is[p] = I at *
      by_cases h11 : I.kind = 11
      · have b11 : ((I.kind : Int) == 11) = true := by simp; omega
        obtain ⟨E, hE, vE⟩ := HM.out.wrt
        have c9 := mwrt HM.out.blk HM.out.len
        have hlt9 : bm < wr.heap.size := (Array.getElem?_eq_some_iff.1 HM.out.blk).1
        obtain ⟨w2, hclr, hE2, hg2⟩ := clear_own (World.ownsMap.alloc hE (.cells (insCells I).toArray 92))
        have HE2 : Hid (ownC w2 bw 0 (.map [])) := hE2
        have HG2 : Hid ((wr.alloc (.cells (insCells I).toArray 92)).grownBy w2 (some bw)) := hg2
        have HE : Hid (ownC wr bw nW E) := hE
        have hclr2 : ∀ ty : TypeId, (Builtin.clear_ #[59] ty #[.map (some bw)]).run Try.prog (wr.alloc (.cells #[.int .u8 I.kind, .int .u8 I.a, .int .u8 I.b, .int .u8 I.c, .int .i64 (wrap64 I.num)] 92)) = .ok (.tuple #[]) w2 := hclr
        rw [h11] at hclr2
        have hclr3 : ∀ ty : TypeId, (Builtin.clear_ #[59] ty #[.map (some bw)]).run Try.prog (wr.alloc (.cells #[.int .u8 11, .int .u8 I.a, .int .u8 I.b, .int .u8 I.c, .int .i64 (wrap64 I.num)] 92)) = .ok (.tuple #[]) w2 := hclr2
        clear hE vE hclr hE2 hg2 hclr2
        go_wp2
        go_ret
        have hka : Keeps (· = bw) wr w2 := ((Keeps.refl _ wr).alloc _).grown HG2.out (fun k e => .inr (by cases e; rfl))
        unfold RunEnd
        rw [HR.out, Habort.out h11]
        have hm0 := HM.out
        obtain ⟨D, hD, vD⟩ := hm0.snap
        refine ⟨rfl, tv, rv, 0, by omega, ⟨hm0.len, hm0.wfr, m_later hm0.blk hka (fun x => hm0.n2 x.symm), own_keeps hm0.told hka (fun k hk' x => map_not_row HE.out hm0.told (x ▸ hk')), own_keeps hm0.reads hka (fun k hk' x => map_not_row HE.out hm0.reads (x ▸ hk')), hm0.apart, ⟨D, ownI_keeps hD hka hm0.n3, vD⟩, ⟨_, HE2.out, VC_empty⟩, hm0.wfS, fun k v h => (by cases h), hm0.n1, hm0.n2, hm0.n3⟩, ?_, ?_, keeps_step HK.out hka (fun j _ x => .inr x)⟩
        · show s.T.length ≤ 256
          have := HT.out
          omega
        · show s.R.length ≤ 256
          have := HT.out
          omega
      · have b11 : ((I.kind : Int) == 11) = false := by simp; omega
        by_cases h9 : I.kind = 9
        · have b9 : ((I.kind : Int) == 9) = true := by simp; omega
          have hle9 := hle h9
          have g1 := mreg HM.out.blk I.a (by rw [HM.out.len]; exact ra)
          have g2 := mreg HM.out.blk I.b (by rw [HM.out.len]; exact rb)
          have hlt9 : bm < wr.heap.size := (Array.getElem?_eq_some_iff.1 HM.out.blk).1
          have hw := wrap_small I.num (by omega)
          rw [hw] at d4
          clear hw hle
          have ra' : (I.a : Int) < 8 := by omega
          have rb' : (I.b : Int) < 8 := by omega
          have L1 : Hid (s.rs.getD I.a 0 < s.rs.getD I.b 0 → Hd.runS S Is (Is.length - p) p s = Hd.runS S Is (Is.length - p - 1 - I.num) (p + I.num + 1) s) := fun h => Hless.out h9 (by omega) h
          have L2 : Hid (¬ s.rs.getD I.a 0 < s.rs.getD I.b 0 → Hd.runS S Is (Is.length - p) p s = Hd.runS S Is (Is.length - p - 1) (p + 1) s) := fun h => Hnot.out h9 h
          clear Hless Hnot Hstep Habort
          generalize s.rs.getD I.a 0 = xa at *
          generalize s.rs.getD I.b 0 = xb at *
          by_cases hx : xa < xb
          · have HR2 : Hid (Hd.runAll S Is = Hd.runS S Is (Is.length - (p + I.num + 1)) (p + I.num + 1) s) := by
              have e : Is.length - (p + I.num + 1) = Is.length - p - 1 - I.num := by omega
              rw [e]
              exact HR.out.trans (L1.out hx)
            clear L1 L2
            go_wp2
            go_quiet (fail)
            go_wp2
            go_roundw
            case rel => exact ⟨p + I.num + 1, s, tv, rv, nW, by go_num, by omega, HM.out.keep (((Keeps.refl (fun _ => False) wr).alloc _).drewN nq) (fun x => x) (fun x => x) (fun x => x) (fun _ _ x => x) (fun _ _ x => x), HR2.out, by omega, ⟨by have := HT.out; omega, by have := HT.out; omega⟩, (HK.out.alloc _).drewN nq⟩
            case measure => simp [intOf]; omega
          · have HR2 : Hid (Hd.runAll S Is = Hd.runS S Is (Is.length - (p + 1)) (p + 1) s) := by
              have e : Is.length - (p + 1) = Is.length - p - 1 := by omega
              rw [e]
              exact HR.out.trans (L2.out hx)
            clear L1 L2
            go_wp2
            go_quiet (fail)
            go_wp2
            go_roundw
            case rel => exact ⟨p + 1, s, tv, rv, nW, by go_num, by omega, HM.out.keep (((Keeps.refl (fun _ => False) wr).alloc _).drewN nq) (fun x => x) (fun x => x) (fun x => x) (fun _ _ x => x) (fun _ _ x => x), HR2.out, by omega, ⟨by have := HT.out; omega, by have := HT.out; omega⟩, (HK.out.alloc _).drewN nq⟩
            case measure => simp [intOf]; omega
        · have b9 : ((I.kind : Int) == 9) = false := by simp; omega
          have hka : Keeps (fun _ => False) wr (wr.alloc (.cells #[.int .u8 I.kind, .int .u8 I.a, .int .u8 I.b, .int .u8 I.c, .int .i64 (wrap64 I.num)] 92)) := (Keeps.refl _ wr).alloc _
          have hm1 := HM.out.keep hka (fun x => x) (fun x => x) (fun x => x) (fun _ _ x => x) (fun _ _ x => x)
          have hdo := do_any _ w.heap.size bm bs bw nS nW tv rv S s I hm1 ra rb rc hkn h9 h11 (by have := HT.out; omega) (by have := HT.out; omega) (by unfold maxLen; omega) (by simp; omega)
          have HKA : Hid (Keeps (fun k => k = bm ∨ k = bw) w (wr.alloc (.cells #[.int .u8 I.kind, .int .u8 I.a, .int .u8 I.b, .int .u8 I.c, .int .i64 (wrap64 I.num)] 92))) := HK.out.alloc _
          have HR2 : Hid (Hd.runAll S Is = Hd.runS S Is (Is.length - (p + 1)) (p + 1) (Hd.stepS S I s)) := by
            have e : Is.length - (p + 1) = Is.length - p - 1 := by omega
            rw [e]
            exact HR.out.trans (Hstep.out h11 h9)
          have HTO : Hid ((∀ k, tv.ownBlock = some k → w.heap.size ≤ k) ∧ ∀ k, rv.ownBlock = some k → w.heap.size ≤ k) := ⟨own_ge HM.out.told, own_ge HM.out.reads⟩
          have HTL : Hid ((Hd.stepS S I s).T.length ≤ p + 1 ∧ (Hd.stepS S I s).R.length ≤ p + 1) := by
            have := HT.out
            have h1 := Hd.step_told S I s
            have h2 := Hd.step_reads S I s
            exact ⟨Nat.le_trans h1 (by omega), Nat.le_trans h2 (by omega)⟩
          clear hka hm1 Habort Hless Hnot Hstep
          go_wp2_with fail
          refine hdo.mono ?_
          rintro e w2 ⟨rfl, tv', rv', hm2, hk2⟩
          have HM2 : Hid (Mach w2 w.heap.size bm bs bw nS (nW + 1) tv' rv' S (Hd.stepS S I s)) := hm2
          have HK2 : Hid (Keeps (fun k => k = bm ∨ k = bw) w w2) := keeps_step HKA.out hk2 (fun j hj x => by
            rcases x with x | x | x | x
            · exact .inl x
            · exact .inr x
            · have := HTO.out.1 j x; omega
            · have := HTO.out.2 j x; omega)
          clear hm2 hk2 hdo
          go_wp2
          go_roundw
          case rel => exact ⟨p + 1, _, tv', rv', nW + 1, by go_num, by omega, HM2.out, HR2.out, by omega, HTL.out, HK2.out⟩
          case measure => simp [intOf]; omega
    · have he := Hd.run_end S Is (Is.length - p) p s (by omega)
      have HE : Hid (Hd.runAll S Is = (2, s)) := HR.out.trans he
      clear he hm hrun hk hT hM
      go_wp2
      go_ret
      unfold RunEnd
      rw [HE.out]
      exact ⟨rfl, tv, rv, nW, by omega, HM.out, by have := HT.out; show s.T.length ≤ 256; omega, by have := HT.out; show s.R.length ≤ 256; omega, HK.out⟩

end Go.Proofs.Ytedbdejhpjkofaa
