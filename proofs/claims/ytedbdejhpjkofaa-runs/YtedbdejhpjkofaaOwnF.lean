/- For all codes and all lists of pairs the law Runs returns true: the program's Run and the document's own answer alike, twice with another one between, what was handed in reads as it did, and every list that came out belongs to its owner alone. No condition. -/
import Derived.Test.YtedbdejhpjkofaaRows
import Derived.Test.YtedbdejhpjkofaaB7
import Derived.Test.YtedbdejhpjkofaaV5
import Derived.WalkKit
import Derived.ProofKit
import Derived.OpenShut
import Derived.SizedLaws
import Derived.ShutString
import Derived.Below
import Derived.Carry
import Derived.Deep.SlicePairs
namespace Go.Proofs.Ytedbdejhpjkofaa
open Go.RowKit Go.Maps
set_option linter.unusedVariables false
set_option linter.unusedSimpArgs false

set_option maxRecDepth 100000 in
set_option maxHeartbeats 4000000 in
theorem runs_any (s t : ByteArray) (hs : s.size ≤ 140737488351232) (ht : t.size ≤ 140737488351232) (ao bo : Option Addr) (ca cb : Nat) (Ps Qs : List (Int × Int)) (w : World) (hP : HoldsA w ao Ps) (hQ : HoldsA w bo Qs) (hPs : Ps.length ≤ 8796093021952) (hQs : Qs.length ≤ 8796093021952) :
    Calls Try.prog 4 #[.string s, .slice ao Ps.length ca, .string t, .slice bo Qs.length cb] w fun e w' => e = .returned (.bool true) ∧ Below w.heap.size w w' := by
  have hPl := hP.low
  have hQl := hQ.low
  go_enter Try.func4, Try.ntmps4
  go_wp2_with fail
  refine (shown_any _).mono ?_
  rintro e w1 ⟨rfl, hb1⟩
  have hsz1 := hb1.size
  obtain ⟨w2, hw2⟩ : ∃ w2, w2 = w1.alloc (.cells #[.int .i64 0, .slice none 0 0, .slice none 0 0] 32) := ⟨_, rfl⟩
  have hb2 : Below w.heap.size w w2 := by rw [hw2]; exact hb1.alloc hsz1 _
  have hs2 : w2.heap.size = w1.heap.size + 1 := by rw [hw2]; simp
  have hbk2 : Book w2 w2.heap.size (w1.heap.size + 1) w1.heap.size (0 : Nat) (.slice none 0 0) (.slice none 0 0) [] [] :=
    ⟨by rw [hw2]; exact heap_alloc_new w1 _, World.ownsRow_nil _ _ _ _, World.ownsRow_nil _ _ _ _, (fun e he => by cases he), (fun e he => by cases he), by omega, by simp, by simp⟩
  have hr1 := bookRun_any w2 (w1.heap.size + 1) w1.heap.size 0 _ _ [] [] hbk2 (by omega) (by omega) (by simp) (by simp) s hs ao ca Ps (holdsA_below hP hPl hb2) hPs
  rw [hw2] at hr1
  clear hbk2
  go_wp2_with fail
  refine hr1.mono ?_
  rintro e w3 ⟨rfl, iv3, pv3, is3, ps3, hbk3, hli3, hlp3, hb3⟩
  rw [← hw2] at hb3
  have hs3 := hb3.size
  have hb03 : Below w.heap.size w w3 := hb2.trans (hb3.mono hsz1)
  have hr2 := bookRun_any w3 (w1.heap.size + 1) w1.heap.size 2 _ _ is3 ps3 hbk3 (by omega) (by omega) (by simp at hli3; omega) (by simp at hlp3; omega) t ht bo cb Qs (holdsA_below hQ hQl hb03) hQs
  clear hr1 hbk3
  go_wp2_with fail
  refine hr2.mono ?_
  rintro e w4 ⟨rfl, iv4, pv4, is4, ps4, hbk4, hli4, hlp4, hb4⟩
  have hs4 := hb4.size
  have hb04 : Below w.heap.size w w4 := hb03.trans (hb4.mono hsz1)
  have hr3 := bookRun_any w4 (w1.heap.size + 1) w1.heap.size 4 _ _ is4 ps4 hbk4 (by omega) (by omega) (by simp at hli3; omega) (by simp at hlp3; omega) s hs ao ca Ps (holdsA_below hP hPl hb04) hPs
  clear hr2 hbk4
  go_wp2_with fail
  refine hr3.mono ?_
  rintro e w5 ⟨rfl, iv5, pv5, is5, ps5, hbk5, hli5, hlp5, hb5⟩
  have hb05 : Below w.heap.size w w5 := hb04.trans (hb5.mono hsz1)
  have hlk := looks_yes w5 w5.heap.size (w1.heap.size + 1) w1.heap.size _ iv5 pv5 is5 ps5 hbk5
  have HB5 : Hid _ := hb05
  clear hr3 hbk5 hb05 hb5 hb04 hb4 hb03 hb3 hb2 hb1 hw2
  go_wp2_with fail
  refine hlk.mono ?_
  rintro e w6 ⟨rfl, q, rfl⟩
  go_wp2
  go_ret
  exact ⟨rfl, Below.drewN' HB5.out q⟩

end Go.Proofs.Ytedbdejhpjkofaa

namespace Go.Proofs.Ytedbdejhpjkofaa.runs
open Go.ChangeShapes Go.WideShapes Go.ChangeAt Go.RowKit
open Go.ChangeMaps (open_string shut_string)
set_option linter.unusedVariables false
set_option linter.unusedSimpArgs false

theorem own : ownKnob Try.prog.godebug = none := by kernel_rfl
theorem cells44 : Try.prog.cellsOf 44 = 2 := by kernel_rfl
theorem cells3 : Try.prog.cellsOf 3 = 1 := by kernel_rfl
theorem laidOut : laidOutB Try.prog = true := by kernel_rfl

theorem cell_lt {w : World} {a : Addr} {v : Value} (h : w.cell? a = some v) : a.block < w.heap.size := by
  refine Classical.byContradiction fun hn => ?_
  have : w.heap[a.block]? = none := Array.getElem?_eq_none (by omega)
  simp [World.cell?, this] at h

set_option maxRecDepth 100000 in
/-- a list of pairs that came in -/
theorem open_pairs {H : Type} {enc : TypeId × Value → H} {W : World} {v : Value} {d : DataW H} {p : List MemPlace} {base : Nat} (hv : Value.okWide Try.prog W .any base 27 v) (h : DataW.Trod enc Try.prog W 0 (fun _ => true) true 27 v d p) :
    ∃ (ao : Option Addr) (cap : Nat) (Ps : List (Int × Int)), v = .slice ao Ps.length cap ∧ HoldsA W ao Ps ∧ (Ps.length = 0 ∨ ∃ elems spare, d = .slice elems spare ∧ Ps.length = elems.length) := by
  obtain ⟨a0, len0, cap0, rfl⟩ := okWide_slice Try.underlying27 hv
  obtain ⟨n, hn⟩ := h
  have hn2 : DataW.trod enc Try.prog W 0 (fun _ => true) true n 27 [.slice a0 len0 cap0] = some (d, p) := hn
  rcases Go.Deep.open_slice_pairs Try.underlying27 Try.underlying44 cells44 rfl rfl cells3 cells3 hn2 with ⟨hc, hx⟩ | ⟨a, len, cap, m, k, V0, V1, D0, D1, P0, P1, hc, _, hl, hm, hmm, hx, hall⟩
  · simp only [List.cons.injEq, and_true, Value.slice.injEq] at hc
    obtain ⟨rfl, rfl, rfl⟩ := hc
    exact ⟨none, 0, [], rfl, fun i hi => by simp at hi, .inl rfl⟩
  · simp only [List.cons.injEq, and_true, Value.slice.injEq] at hc
    obtain ⟨rfl, rfl, rfl⟩ := hc
    simp only [if_true] at hmm
    subst hmm
    simp only [Prod.mk.injEq] at hx
    obtain ⟨rfl, rfl⟩ := hx
    have hint : ∀ i, i < m → ∃ x y, V0 i = .int .i64 x ∧ V1 i = .int .i64 y ∧ wf x ∧ wf y := fun i hi => by
      obtain ⟨x, h1, _, h3⟩ := DataW.trod_int Try.underlying3 (hall i hi).2.2.1
      obtain ⟨y, g1, _, g3⟩ := DataW.trod_int Try.underlying3 (hall i hi).2.2.2
      simp only [List.cons.injEq, and_true] at h1 g1
      exact ⟨x, y, h1, g1, h3, g3⟩
    refine ⟨some a, m, (List.range len0).map (fun i => ((match V0 i with | .int _ x => x | _ => 0), (match V1 i with | .int _ y => y | _ => 0))), by simp, ?_, ?_⟩
    · intro i hi
      have hi2 : i < len0 := by simpa using hi
      obtain ⟨x, y, e0, e1, w0, w1⟩ := hint i (by omega)
      obtain ⟨c0, c1, _, _⟩ := hall i (by omega)
      have hb := cell_lt c0
      rw [add_block] at hb
      refine ⟨a, rfl, hb, ?_, ?_, ?_, ?_⟩
      · simp only [List.getElem_map, List.getElem_range, e0]; rw [c0, e0]
      · simp only [List.getElem_map, List.getElem_range, e1]; rw [c1, e1]
      · simp only [List.getElem_map, List.getElem_range, e0]; exact w0
      · simp only [List.getElem_map, List.getElem_range, e1]; exact w1
    · exact .inr ⟨_, _, rfl, by simp⟩

theorem few_pairs {H : Type} {ts : List TypeId} {ds : List (DataW H)} (h : (DataW.weightsEach Try.prog ts ds).all (· ≤ reachBytes) = true) {j : Nat} {d : DataW H} {Ps : List (Int × Int)} (ht : ts[j]? = some 27) (hd : ds[j]? = some d)
    (hl : Ps.length = 0 ∨ ∃ elems spare, d = .slice elems spare ∧ Ps.length = elems.length) : Ps.length ≤ 8796093021952 := by
  rcases hl with hl | ⟨elems, spare, rfl, hl⟩
  · omega
  · have h1 := sized_slice h ht hd Try.underlying27
    have hb : Try.prog.bytesOf 44 = 16 := by kernel_rfl
    rw [hb] at h1
    unfold reachBytes at h1
    omega

set_option maxRecDepth 100000 in
theorem contract (H : Type) (enc : TypeId × Value → H) (W : World) (base : Nat) (args : Array Value) (ds gs : List (DataW H)) (before : List MemPlace)
    (hval : ∀ (j : Nat) t v, Try.f4.params[j]? = some t → args[j]? = some v → Value.okWide Try.prog W .any base t v)
    (hW : DataW.Whole enc Try.prog Try.f4.params.toList Rows.runsSpec.vars false W args.toList ds gs before) (hsz0 : (DataW.weightsEach Try.prog (Try.f4.params.toList ++ Rows.runsSpec.plain.varTypes Try.prog) (ds ++ gs)).all (· ≤ reachBytes) = true) :
    Calls Try.prog 4 args W fun e W' => ∃ v, e = .returned v ∧ Rows.runsSpec.post enc Try.prog Try.f4 false true false false W args v W' := by
  have hW' := hW
  have hlow := hW.lt
  obtain ⟨p, q, hA0, hV, rfl, hfz, hnd⟩ := hW
  have hA : DataW.TrodAll enc Try.prog W 0 (fun _ => true) true Try.f4.params.toList args.toList ds p := hA0
  have hsz : (DataW.weightsEach Try.prog (Try.f4.params.toList ++ Rows.runsSpec.plain.varTypes Try.prog) (ds ++ gs)).all (· ≤ reachBytes) = true := hsz0
  rw [Try.params4] at hA hval hsz
  clear hsz0
  obtain ⟨v0, vs0, d0, ds0, p0, q0, hargs, rfl, rfl, h0, r0⟩ := trodAll_cons hA
  obtain ⟨v1, vs1, d1, ds1, p1, q1, rfl, rfl, rfl, h1, r1⟩ := trodAll_cons r0
  obtain ⟨v2, vs2, d2, ds2, p2, q2, rfl, rfl, rfl, h2, r2⟩ := trodAll_cons r1
  obtain ⟨v3, vs3, d3, ds3, p3, q3, rfl, rfl, rfl, h3, r3⟩ := trodAll_cons r2
  obtain ⟨rfl, rfl, rfl⟩ := trodAll_nil r3
  obtain rfl : args = #[v0, v1, v2, v3] := by cases args; simp_all
  obtain ⟨rfl, rfl⟩ := trodVars_none hV
  have h0' := h0
  have h1' := h1
  have h2' := h2
  have h3' := h3
  obtain ⟨a0, rfl, rfl, rfl, w0⟩ := open_string Try.underlying9 (hval 0 9 v0 rfl rfl) h0
  obtain ⟨ao, ca, Ps, rfl, hP, hPl⟩ := open_pairs (hval 1 27 v1 rfl rfl) h1
  obtain ⟨a2, rfl, rfl, rfl, w2⟩ := open_string Try.underlying9 (hval 2 9 v2 rfl rfl) h2
  obtain ⟨bo, cb, Qs, rfl, hQ, hQl⟩ := open_pairs (hval 3 27 v3 rfl rfl) h3
  have hl0 := sized_string hsz (j := 0) (t := 9) rfl rfl
  have hl2 := sized_string hsz (j := 2) (t := 9) rfl rfl
  have hl1 := few_pairs hsz (j := 1) rfl rfl hPl
  have hl3 := few_pairs hsz (j := 3) rfl rfl hQl
  have e0 : a0.data.toList.length = a0.size := by simp
  have e2 : a2.data.toList.length = a2.size := by simp
  rw [e0] at hl0
  rw [e2] at hl2
  unfold reachBytes at hl0 hl2
  refine (runs_any a0 a2 (by omega) (by omega) ao bo ca cb Ps Qs W hP hQ hl1 hl3).mono fun e W' ⟨he, bel⟩ => ?_
  subst he
  exact ⟨_, rfl, _, _, _, [], _, [], hW', trodAll_mk1 (shut_bool Try.underlying4 _), (trodAll_cons_mk (shut_string Try.underlying9 w0) (trodAll_cons_mk (bel.trod laidOut (by kernel_rfl) (of_decide_eq_true (by kernel_rfl)) h1' (fun x hx => hlow x (by simp [hx]))) (trodAll_cons_mk (shut_string Try.underlying9 w2) (trodAll_cons_mk (bel.trod laidOut (by kernel_rfl) (of_decide_eq_true (by kernel_rfl)) h3' (fun x hx => hlow x (by simp [hx]))) trodAll_mk0)))), rfl, bel.frame _, fun h => by cases h⟩

set_option maxRecDepth 100000 in
theorem lifted (os : Os) (started : os.Started) (H : Type) (enc : TypeId × Value → H) :
    ReturnsInHanded {} Try.checked os 4 .any (Rows.runsSpec.pre6 enc Try.prog Try.f4 Rows.runsRow.domain false) (Rows.runsSpec.post enc Try.prog Try.f4 false true false false) := by
  refine returnsInHanded_of_change_sized (C := Try.checked) own started (by kernel_rfl) Try.func4
    (ChangeSpec.witness6 (enc := enc) (C := Try.checked) false ⟨#[], #[.string ByteArray.empty, .slice none 0 0, .string ByteArray.empty, .slice none 0 0], []⟩ 8 (by kernel_rfl) (by kernel_rfl) (by kernel_rfl) (by kernel_rfl)) ?_
  intro W base args ds gs before hval hW hcnd hsz _
  exact contract H enc W base args ds gs before hval hW hsz

theorem over : Rows.runsRow.holds Try.pinned (OpenSpec.ofChange Rows.runsSpec) :=
  OpenClaim.holds_of_wide 4 Try.f4 rfl rfl rfl rfl rfl rfl rfl ⟨rfl, rfl, rfl, rfl, rfl⟩ rfl rfl rfl rfl rfl (by kernel_rfl) Try.func4 (by kernel_rfl)
    (of_decide_eq_true (by kernel_rfl)) (by unfold Func.isWrapper; first | (rw [if_pos (by decide +kernel)]; kernel_rfl) | (rw [if_neg (by decide +kernel)]; exact ⟨rfl, rfl⟩))
    (fun os started H enc _ => lifted os started H enc)

end Go.Proofs.Ytedbdejhpjkofaa.runs

namespace Go.Proofs.Ytedbdejhpjkofaa

theorem runs_holds : Rows.RunsSaid := runs.over

#print axioms runs_holds
end Go.Proofs.Ytedbdejhpjkofaa
