import Derived.Test.YtedbdejhpjkofaaU7
namespace Go.Proofs.Ytedbdejhpjkofaa
open Go.RowKit Go.Maps Go.Sort Go.Shelf
set_option linter.unusedVariables false
set_option linter.unusedSimpArgs false

theorem keys_nodup_mem {w : World} {b n : Nat} {D : DU} (hown : ownI w b n D) : (intKeys D).Nodup ∧ ∀ x, x ∈ intKeys D ↔ Maps.has D (.int .i64 x) = true := by
  obtain ⟨es, hD, hpw, _⟩ := World.ownsMap.entries hown law3
  obtain ⟨es', hD', hko⟩ := World.ownsMap.keysOf hown
  obtain rfl : es = es' := by rw [hD] at hD'; simpa using hD'
  subst hD
  have hk : ∀ p ∈ es, ∃ x, p.1 = Lit.int .i64 x := fun p hp => by
    obtain ⟨v, hv⟩ := hko p hp
    obtain ⟨x, _, hx, _⟩ := Maps.keyOf_i64 Try.underlying3 hv
    exact ⟨x, hx⟩
  refine ⟨?_, fun x => ?_⟩
  · show (es.map fun p => Go.intOf p.1).Nodup
    refine List.pairwise_map.2 (hpw.imp_of_mem fun {p q} hp' hq' hne e => hne ?_)
    obtain ⟨a, ha⟩ := hk p hp'
    obtain ⟨b, hb⟩ := hk q hq'
    rw [ha, hb] at e ⊢
    exact congrArg _ e
  · rw [has_eq, List.any_eq_true]
    show x ∈ (es.map fun p => Go.intOf p.1) ↔ _
    rw [List.mem_map]
    constructor
    · rintro ⟨p, hp', rfl⟩
      obtain ⟨a, ha⟩ := hk p hp'
      exact ⟨p, hp', by rw [ha]; simp [Lit.sameKey, Go.intOf]⟩
    · rintro ⟨p, hp', hs⟩
      obtain ⟨a, ha⟩ := hk p hp'
      rw [ha] at hs
      exact ⟨p, hp', by rw [ha]; simpa [Lit.sameKey, Go.intOf] using hs⟩

/-- the keys that stand, in order -/
structure KeysOf (f : Int → Option Int) (ks : List Int) : Prop where
  up : ks.Pairwise (· < ·)
  mem : ∀ k, k ∈ ks ↔ wf k ∧ (f k).isSome = true

theorem keysOf_sorted {w : World} {b n : Nat} {D : DU} {f : Int → Option Int} (hown : ownI w b n D) (hV : VI D f) {ss : List Int} (hp : ss.Perm (intKeys D)) : KeysOf f (ss.mergeSort (fun x y => decide (x ≤ y))) := by
  obtain ⟨hnd, hm⟩ := keys_nodup_mem hown
  have hperm : (ss.mergeSort (fun x y => decide (x ≤ y))).Perm (intKeys D) := (List.mergeSort_perm ss _).trans hp
  have hs := List.pairwise_mergeSort (le := fun (x y : Int) => decide (x ≤ y)) (fun a b c h1 h2 => by simp at *; omega) (fun a b => by simp; omega) ss
  have hnd2 := hperm.nodup_iff.2 hnd
  refine ⟨?_, fun k => ?_⟩
  · refine (hs.and hnd2).imp ?_
    intro a b h
    have := h.1
    have := h.2
    simp at *
    omega
  · rw [hperm.mem_iff, hm k]
    constructor
    · intro h
      have hw : wf k := intKeys_wf hown Try.underlying3 k ((hm k).2 h)
      refine ⟨hw, ?_⟩
      rw [← VI_has hV hw]
      exact h
    · rintro ⟨hw, h⟩
      rw [← VI_has hV hw] at h
      exact h

def pairCells (ps : List (Int × Int)) : List Value := ps.flatMap (fun p => [.int .i64 p.1, .int .i64 p.2])
theorem pairCells_snoc (ps : List (Int × Int)) (p : Int × Int) : pairCells (ps ++ [p]) = pairCells ps ++ [.int .i64 p.1, .int .i64 p.2] := by simp [pairCells]

def standing (f : Int → Option Int) (ks : List Int) : List (Int × Int) := ks.map (fun k => (k, (f k).getD 0))

theorem standing_snoc (f : Int → Option Int) (ks : List Int) (k : Int) : standing f (ks ++ [k]) = standing f ks ++ [(k, (f k).getD 0)] := by simp [standing]

/-- 'm[k]' at a map of numbers -/
theorem wpList_get_int (w : World) {ops : Array Oper} {rest : List Oper} {o : Oper} {a : Act} {Q : Exit → Act → World → Prop} (hg : o.guard = none) (m x : Operand) (hop : o.op = Op.lookup 56 m x false) (b n : Nat) (D : DU) (f : Int → Option Int) (hV : VI D f)
    (hm : a.eval m = .map (some b)) (hown : ownI w b n D) (k : Int) (hk : wf k) (hx : a.eval x = .int .i64 k)
    (hK : wpList Try.prog ops Q rest (a.put o.dst (.int .i64 ((f k).getD 0))) w) : wpList Try.prog ops Q (o :: rest) a w := by
  refine wpList_lookup_own_int w hg m x 56 hop 3 3 .i64 law3 Try.underlying56 Try.underlying3 (zero3 w) b n D hm hown (.int .i64 k) (kL k) hx (keyOf_int_mk Try.underlying3 hk) ?_
  intro c hat _
  rw [hV k hk] at hat
  cases hf : f k with
  | none =>
    rw [hf] at hat hK
    simp only [Option.elim] at hat
    injection hat with hat
    injection hat with _ hat
    subst hat
    exact hK
  | some v =>
    rw [hf] at hat hK
    simp only [Option.elim] at hat
    injection hat with hat
    injection hat with _ hat
    subst hat
    exact hK

theorem own_int {w : World} {base cap : Nat} {ks : List Int} {ao : Option Addr} (h : w.ownsRow base 3 1 (.slice ao ks.length cap) ks.length (ks.map (Value.int .i64))) (k : Nat) (hk : k < ks.length) :
    ∃ g, ao = some ⟨g, 0, none⟩ ∧ w.cell? ⟨g, k, none⟩ = some (.int .i64 ks[k]) := by
  rcases h.2 with ⟨hv, hz⟩ | ⟨g, cap', cur, hv, hbase, hg, _⟩
  · omega
  · simp only [Value.slice.injEq] at hv
    obtain ⟨rfl, _, rfl⟩ := hv
    refine ⟨g, rfl, ?_⟩
    have hc := h.cells (g := g) rfl k (.int .i64 ks[k]) (by simp [hk])
    have hadd : (⟨g, 0, none⟩ : Addr).add k = ⟨g, k, none⟩ := by unfold Addr.add; split <;> simp_all
    rwa [hadd] at hc

theorem rows_ne {w : World} {b1 e1 s1 n1 b2 e2 s2 n2 : Nat} {v1 v2 : Value} {x1 x2 : List Value} (h1 : w.ownsRow b1 e1 s1 v1 n1 x1) (h2 : w.ownsRow b2 e2 s2 v2 n2 x2) (hne : e1 ≠ e2) (hs : v1.ownBlock ≠ none) : v1.ownBlock ≠ v2.ownBlock := by
  intro e
  rcases h1.2 with ⟨rfl, _⟩ | ⟨g, cap, cur, rfl, hb, hg, _⟩
  · exact hs rfl
  · exact own_ne h2 hg (fun x => hne x.symm) (by rw [← e]; rfl)

set_option maxRecDepth 100000 in
set_option maxHeartbeats 1000000 in
theorem inOrder_any (bs n : Nat) (D : DU) (f : Int → Option Int) (w : World) (hown : ownI w bs n D) (hV : VI D f) (hn : n ≤ 8796093022208) :
    Calls Try.prog 25 #[.map (some bs)] w fun e w' => ∃ (ks : List Int) (v : Value), KeysOf f ks ∧ e = .returned v ∧ w'.ownsRow w.heap.size 44 2 v ks.length (pairCells (standing f ks)) ∧ ks.length ≤ n ∧ Below w.heap.size w w' := by
  obtain ⟨i0, hi, hz0, hz1, hz2⟩ := info_parts Try.info44
  have hsz := World.ownsMap.size_le hown
  have hlt := World.ownsMap.lt hown
  go_enter Try.func25, Try.ntmps25
  go_wp2_with (first
    | (at_len; refine wpList_len_own _ rfl _ _ rfl 3 3 Try.underlying56 _ bs n _ rfl hown ?_)
    | (at_make; refine wpList_make_own _ rfl _ _ 27 rfl w.heap.size 44 i0 _ 2 Try.underlying27 hi hz0 hz1 .i64 .i64 _ (Maps.size D) rfl rfl rfl (by rw [hz2]; omega) (by unfold maxLen; omega) (Nat.le_refl _) ?_; intro w1 hown1 hgrow1)
    | (go_at_call 35; refine (keys_any _ _).mono ?_; rintro e w' ⟨rfl, rfl⟩))
  have hownw : ownI w1 bs n D := World.ownsMap.kept hown hgrow1 (by simp)
  have hb1 : Below w.heap.size w w1 := (Below.refl _ _).grown hgrow1 (Nat.le_refl _) (fun k e => by cases e)
  refine (sorted_any bs n _ _ w1 hownw (by unfold maxLen; omega) (by omega)).mono ?_
  rintro e w2 ⟨v, ss, rfl, hperm, hrow, hnil, hb⟩
  have hks := keysOf_sorted hownw hV hperm
  have hlen : (ss.mergeSort (fun x y => decide (x ≤ y))).length = ss.length := List.length_mergeSort ss
  have hssz : ss.length ≤ n := by
    have h1 := hperm.length_eq
    have h2 : (intKeys D).length = Maps.size D := by
      obtain ⟨es, rfl, _⟩ := World.ownsMap.keysOf hownw
      simp [intKeys, Maps.size]
    omega
  rw [← hlen] at hrow hssz
  generalize ss.mergeSort (fun x y => decide (x ≤ y)) = ks at *
  have hb2 : Below w.heap.size w w2 := (hb1.alloc hb1.size _).trans (hb.mono (by have := hb1.size; omega))
  have hown2 : ownI w2 bs n D := World.ownsMap.kept hown (grownBy_of_below hb2 none) (by simp)
  have hres2 : w2.ownsRow w.heap.size 44 2 (.slice (some ⟨w.heap.size, 0, none⟩) 0 (Maps.size D)) 0 [] := own_below (hown1.alloc _) (by
    have := hb
    have e : (w1.alloc (.cells #[.map (some bs)] 56)).heap.size = w1.heap.size + 1 := by simp
    rw [e]
    exact this)
  obtain ⟨ao, cap, rfl⟩ := own_form hrow
  have hrow3 : w2.ownsRow (w1.heap.size + 1) 3 1 (.slice ao ks.length cap) ks.length (ks.map (Value.int .i64)) := hrow
  have hsz1 := hb1.size
  clear hperm hrow hnil hb hown hown1 hgrow1 hownw hb1 hlen
  go_wp2
  go_loopw [3, 13] (fun v j wr => ∃ k : Nat, k ≤ ks.length ∧ j = .int .i64 k ∧ wr.ownsRow w.heap.size 44 2 v k (pairCells (standing f (ks.take k))) ∧ ownI wr bs n D ∧ wr.ownsRow (w1.heap.size + 1) 3 1 (.slice ao ks.length cap) ks.length (ks.map (Value.int .i64)) ∧ Below w.heap.size w wr) (fun _ j _ => ks.length - (intOf j).toNat)
  case atStart => exact ⟨0, Nat.zero_le _, rfl, hres2, hown2, hrow3, hb2⟩
  case round =>
    obtain ⟨k, hk, rfl, hres, hD, hrow, hbel⟩ := hrel
    have hwsz := hbel.size
    obtain ⟨vo, vc, rfl⟩ := own_form hres
    by_cases hkl : k < ks.length
    · obtain ⟨g, rfl, c0⟩ := own_int hrow k hkl
      have htk := take_add ks k hkl
      have hkk := (hks.mem ks[k]).1 (List.getElem_mem hkl)
      have Hst : Hid (standing f (ks.take (k + 1)) = standing f (ks.take k) ++ [(ks[k], (f ks[k]).getD 0)]) := by rw [htk, standing_snoc]; rfl
      have hwk := hkk.1
      have HKS : Hid (KeysOf f ks) := hks
      clear htk hkk hks hres2 hown2 hrow3 hb2
      generalize ks[k] = key at *
      have HRES : Hid (wr.ownsRow w.heap.size 44 2 (.slice vo k vc) k (pairCells (standing f (ks.take k)))) := hres
      have HROW : Hid (wr.ownsRow (w1.heap.size + 1) 3 1 (.slice (some ⟨g, 0, none⟩) ks.length cap) ks.length (ks.map (Value.int .i64))) := hrow
      clear hrow
      go_wp2_with (first
        | (at_lookup; refine wpList_get_int _ rfl _ _ rfl bs n D f hV rfl hD key hwk rfl ?_)
        | (at_builtin; refine wpList_append_own _ rfl _ _ 27 rfl w.heap.size 44 i0 _ 2 16 Try.underlying27 hi hz0 hz1 hz2 rfl (by decide) _ _ _ rfl (hres.alloc _) ⟨wr.heap.size, 0, none⟩ 1 1 [.int .i64 key, .int .i64 ((f key).getD 0)] rfl rfl ?c1 ?c2 ?c3 ?c4 ?c5 ?_))
      case c1 => exact news_new wr [.int .i64 key, .int .i64 ((f key).getD 0)] 44
      case c2 => intro u hu; simp at hu; rcases hu with rfl | rfl <;> rfl
      case c3 => unfold maxLen; omega
      case c4 => omega
      case c5 => simp; omega
      · intro v' w3 hown' hgrow _
        have hgrow0 : wr.grownBy w3 (Value.slice vo k vc).ownBlock := (World.grownBy_alloc wr _ _).trans hgrow
        have hD3 : ownI w3 bs n D := World.ownsMap.kept hD hgrow0 (fun e => map_not_row hD HRES.out e.symm)
        have hrow3 := HROW.out.kept hgrow0 (.inr (rows_ne HROW.out HRES.out (by decide) (by simp [Value.ownBlock])))
        have hbel3 : Below w.heap.size w w3 := hbel.grown hgrow0 hwsz (own_ge HRES.out)
        have HR3 : Hid (w3.ownsRow (w1.heap.size + 1) 3 1 (.slice (some ⟨g, 0, none⟩) ks.length cap) ks.length (ks.map (Value.int .i64))) := hrow3
        have HO3 : Hid (w3.ownsRow w.heap.size 44 2 v' (k + 1) (pairCells (standing f (ks.take k)) ++ [.int .i64 key, .int .i64 ((f key).getD 0)])) := hown'
        obtain ⟨vo', vc', rfl⟩ := own_form hown'
        clear hgrow hgrow0 hown' hrow3 hres hD
        go_wp2
        go_roundw
        case rel => exact ⟨k + 1, by omega, by go_num, by rw [Hst.out, pairCells_snoc]; exact HO3.out, hD3, HR3.out, hbel3⟩
        case measure => simp [intOf]; omega
    · have e : ks.take k = ks := List.take_of_length_le (by omega)
      have e2 : k = ks.length := by omega
      rw [e, e2] at hres
      have HRES : Hid (wr.ownsRow w.heap.size 44 2 (.slice vo ks.length vc) ks.length (pairCells (standing f ks))) := by
        have h1 := own_form hres
        obtain ⟨a1, c1, h1⟩ := h1
        rw [h1] at hres
        injection h1 with h2 h3 h4
        subst h2 h4
        exact hres
      have E2 : Hid (k = ks.length) := e2
      clear e e2 hres hrow hD hres2 hown2 hrow3 hb2
      go_wp2
      go_ret
      refine ⟨ks, _, hks, rfl, ?_, hssz, hbel⟩
      rw [E2.out]
      exact HRES.out

end Go.Proofs.Ytedbdejhpjkofaa
