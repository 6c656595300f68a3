import Derived.Test.YtedbdejhpjkofaaW5
namespace Go.Proofs.Ytedbdejhpjkofaa
open Go.RowKit
set_option linter.unusedVariables false

def strLen : Value → Nat | .string t => t.size | _ => 0

/-- the cells of the instructions that begin at ps -/
def listCells (L : List UInt8) (ps : List Nat) : List Value := (Hd.insAt L ps).flatMap insCells

theorem listCells_snoc (L : List UInt8) (ps : List Nat) (p : Nat) : listCells L (ps ++ [p]) = listCells L ps ++ insCells (Hd.insOf (L.drop p)) := by
  simp [listCells, Hd.insAt]

theorem Try.info92 : (Try.prog.info? 92).map (fun i => (i.zero, i.size, i.bytes)) = some (some (.agg #[.int .u8 0, .int .u8 0, .int .u8 0, .int .u8 0, .int .i64 0]), 5, 16) := by kernel_rfl

theorem own_form {w : World} {base e size n : Nat} {v : Value} {xs : List Value} (h : w.ownsRow base e size v n xs) : ∃ ao cap, v = .slice ao n cap := by
  rcases h.2 with ⟨rfl, rfl⟩ | ⟨g, cap, cur, rfl, _⟩
  · exact ⟨_, _, rfl⟩
  · exact ⟨_, _, rfl⟩

theorem grownBy_of_below {w w' : World} (h : Below w.heap.size w w') (row : Option Nat) : w.grownBy w' row := ⟨h.os, h.tape, h.output, h.size, fun k hk _ => h.block k hk⟩

theorem own_below {w w' : World} {base e size n : Nat} {v : Value} {xs : List Value} (h : w.ownsRow base e size v n xs) (hb : Below w.heap.size w w') : w'.ownsRow base e size v n xs :=
  h.kept (grownBy_of_below hb none) (by cases hv : v.ownBlock <;> simp)

theorem own_ge {w : World} {base e size n : Nat} {v : Value} {xs : List Value} (h : w.ownsRow base e size v n xs) : ∀ k, v.ownBlock = some k → base ≤ k := fun k hk => (h.lt k hk).1

theorem news_new (w : World) (xs : List Value) (e : TypeId) : ∀ (j : Nat) (u : Value), xs[j]? = some u → (w.alloc (.cells xs.toArray e)).cell? ((⟨w.heap.size, 0, none⟩ : Addr).add j) = some u := by
  intro j u hu
  have hadd : (⟨w.heap.size, 0, none⟩ : Addr).add j = ⟨w.heap.size, j, none⟩ := by unfold Addr.add; split <;> simp_all
  rw [hadd, cell_of_row _ w.heap.size j xs.toArray e (0, 0) (heap_alloc_new w _)]
  simpa using hu

theorem isEmpty_of (t : ByteArray) (h : 0 < t.size) : t.toList.isEmpty = false := by
  rw [ByteArray.toList_eq]
  cases ht : t.data.toList with
  | nil => have : t.data.toList.length = t.size := by simp
           rw [ht] at this; simp at this; omega
  | cons x r => rfl

theorem isEmpty_of0 (t : ByteArray) (h : t.size = 0) : t.toList.isEmpty = true := by
  rw [ByteArray.toList_eq]
  cases ht : t.data.toList with
  | nil => rfl
  | cons x r => have : t.data.toList.length = t.size := by simp
                rw [ht] at this; simp at this; omega

/-- how decode ends -/
def DecEnd (L : List UInt8) (base : Nat) (e : Ending) (w' : World) : Prop :=
  (∀ ps, Hd.prog L = some ps → ∃ v, e = .returned (.tuple #[v, .bool true]) ∧ w'.ownsRow base 92 5 v ps.length (listCells L ps)) ∧
  (Hd.prog L = none → e = .returned (.tuple #[.slice none 0 0, .bool false]))

theorem decEnd_no {L : List UInt8} {base : Nat} {w' : World} (h : Hd.prog L = none) : DecEnd L base (.returned (.tuple #[.slice none 0 0, .bool false])) w' :=
  ⟨fun ps hp => absurd (h.symm.trans hp) (by simp), fun _ => rfl⟩

theorem small9 (l : List UInt8) (h : (Hd.insOf l).kind = 9) : (Hd.insOf l).num < 256 := by
  have hk : Hd.byte l 0 = 9 := h
  unfold Hd.insOf
  rw [hk]
  have h1 := Hd.numU_lt ((l.drop (1 + Hd.regs 9)).take (Hd.more 9))
  have h2 : ((l.drop (1 + Hd.regs 9)).take (Hd.more 9)).length ≤ 1 := by rw [List.length_take]; simp [Hd.more]; omega
  have h3 := Nat.pow_le_pow_right (n := 256) (by decide) h2
  show Hd.numU ((l.drop (1 + Hd.regs 9)).take (Hd.more 9)) < 256
  omega

theorem flat_get (Is : List Hd.Ins) (i j : Nat) (hi : i < Is.length) (hj : j < 5) : (Is.flatMap insCells)[i * 5 + j]? = (insCells Is[i])[j]? := by
  induction Is generalizing i with
  | nil => simp at hi
  | cons x r ih =>
    have hlen : (insCells x).length = 5 := rfl
    rw [List.flatMap_cons]
    cases i with
    | zero => rw [List.getElem?_append_left (by rw [hlen]; omega)]; simp
    | succ i =>
      rw [List.getElem?_append_right (by rw [hlen]; omega), hlen]
      have e : (i + 1) * 5 + j - 5 = i * 5 + j := by omega
      rw [e, ih i (by simpa using hi)]
      simp

theorem holds_of_own {w : World} {base g cap : Nat} {Is : List Hd.Ins} (h : w.ownsRow base 92 5 (.slice (some ⟨g, 0, none⟩) Is.length cap) Is.length (Is.flatMap insCells)) : HoldsI w g Is := by
  intro i hi
  have hc := h.cells (g := g) rfl
  have hadd : ∀ j, (⟨g, 0, none⟩ : Addr).add j = ⟨g, j, none⟩ := by intro j; unfold Addr.add; split <;> simp_all
  have key : ∀ j u, j < 5 → (insCells Is[i])[j]? = some u → w.cell? ⟨g, i * 5 + j, none⟩ = some u := by
    intro j u hj hu
    have := hc (i * 5 + j) u (by rw [flat_get Is i j hi hj]; exact hu)
    rwa [hadd] at this
  exact ⟨key 0 _ (by omega) rfl, key 1 _ (by omega) rfl, key 2 _ (by omega) rfl, key 3 _ (by omega) rfl, key 4 _ (by omega) rfl⟩

theorem within_own {L : List UInt8} {ps : List Nat} {w : World} {base cap : Nat} {ao : Option Addr} (h : w.ownsRow base 92 5 (.slice ao ps.length cap) ps.length (listCells L ps)) (hn : ps.length ≤ 256) (hok : ∀ q, q ∈ ps → Hd.okOne (L.drop q) = true) :
    Calls Try.prog 37 #[.slice ao ps.length cap] w fun e w' => e = .returned (.bool (Hd.within (Hd.insAt L ps))) ∧ Below w.heap.size w w' := by
  have hlc : (Hd.insAt L ps).length = ps.length := by simp [Hd.insAt]
  rcases h.2 with ⟨hv, hz⟩ | ⟨g, cap', cur, hv, hbase, hg, _⟩
  · have hnil : ps = [] := List.eq_nil_of_length_eq_zero hz
    subst hnil
    simp only [List.length_nil] at hv ⊢
    rw [hv]
    have e : Hd.within (Hd.insAt L []) = true := by rfl
    rw [e]
    exact within_nil w
  · simp only [Value.slice.injEq] at hv
    obtain ⟨rfl, _, rfl⟩ := hv
    have hgl : g < w.heap.size := (Array.getElem?_eq_some_iff.1 hg).1
    rw [← hlc] at h ⊢
    refine within_row g cap (Hd.insAt L ps) w hgl (holds_of_own h) (by omega) ?_
    intro i hi hk
    have e : (Hd.insAt L ps)[i] = Hd.insOf (L.drop (ps[i]'(by omega))) := by simp [Hd.insAt]
    rw [e] at hk ⊢
    exact small9 _ hk

set_option maxRecDepth 100000 in
set_option maxHeartbeats 1000000 in
theorem decode_loop (s : ByteArray) (w : World) (hs : s.size ≤ maxLen) :
    Calls Try.prog 26 #[.string s] w fun e w' => DecEnd s.data.toList w.heap.size e w' ∧ Below w.heap.size w w' := by
  obtain ⟨i0, hi, hz0, hz1, hz2⟩ := info_parts Try.info92
  go_enter Try.func26, Try.ntmps26
  go_wp2
  go_loopw [0, 4] (fun c v wr => ∃ (t : ByteArray) (ps : List Nat) (p : Nat), c = .string t ∧ t.data.toList = s.data.toList.drop p ∧ t.size ≤ maxLen ∧ Hd.Far s.data.toList ps p ∧
      wr.ownsRow w.heap.size 92 5 v ps.length (listCells s.data.toList ps) ∧ Below w.heap.size w wr) (fun c _ _ => strLen c)
  case atStart => exact ⟨s, [], 0, rfl, by simp, hs, Hd.far_start _, World.ownsRow_nil _ _ _ _, Below.refl _ _⟩
  case round =>
    obtain ⟨t, ps, p, rfl, ht, hm, hf, hown, hbel⟩ := hrel
    have hlen : t.data.toList.length = t.size := by simp
    have hpl : t.size = s.size - p := by rw [← hlen, ht, List.length_drop]; simp
    have hsl : s.data.toList.length = s.size := by simp
    have Ht : Hid (t.data.toList = s.data.toList.drop p) := ht
    have Hm : Hid (t.size ≤ maxLen) := hm
    have Hf : Hid (Hd.Far s.data.toList ps p) := hf
    have Hpl : Hid (t.size = s.size - p) := hpl
    have Hs : Hid (s.size ≤ maxLen) := hs
    clear ht hm hf hpl hs hlen
    obtain ⟨ao, cap, rfl⟩ := own_form hown
    by_cases h0 : 0 < t.size
    · have he := isEmpty_of t h0
      have hpn : p < s.data.toList.length := by have := Hpl.out; omega
      by_cases h1 : ps.length = 256
      · have hN : Hd.prog s.data.toList = none := by unfold Hd.prog; rw [Hd.far_full Hf.out hpn h1]
        have HN : Hid (Hd.prog s.data.toList = none) := hN
        clear hN
        go_wp2
        go_ret2
        exact ⟨decEnd_no HN.out, hbel⟩
      · have hb1 : ((ps.length : Int) == 256) = false := by simp; omega
        have hfew := Hf.out.few
        cases hok : Hd.okOne t.data.toList with
        | false =>
          have hN : Hd.prog s.data.toList = none := by unfold Hd.prog; rw [Hd.far_no Hf.out hpn (by rw [← Ht.out]; exact hok)]
          have HN : Hid (Hd.prog s.data.toList = none) := hN
          have hc := cut_no t wr h0 Hm.out hok
          unfold cutNo at hc
          clear hN hok
          go_wp2_with fail
          refine hc.mono ?_
          rintro e w1 ⟨rfl, hb⟩
          go_wp2
          go_ret2
          refine ⟨decEnd_no HN.out, ?_⟩
          exact (hbel.trans (hb.mono hbel.size)).alloc (by have := hbel.size; have := hb.size; omega) _
        | true =>
          have hstep := Hd.far_step Hf.out hpn (by rw [← Ht.out]; exact hok) (by omega)
          have hsz := Hd.okOne_size _ hok
          have hlen : t.data.toList.length = t.size := by simp
          rw [hlen] at hsz
          have hszp := Hd.size_pos (Hd.byte t.data.toList 0)
          have hcells := listCells_snoc s.data.toList ps p
          rw [← Ht.out] at hstep hcells
          have hrest : (t.extract (Hd.size (Hd.byte t.data.toList 0)) t.size).data.toList = s.data.toList.drop (p + Hd.size (Hd.byte t.data.toList 0)) := by
            rw [ext_list, Ht.out, List.drop_drop, List.take_of_length_le]
            simp; have := Hpl.out; omega
          have hrs : (t.extract (Hd.size (Hd.byte t.data.toList 0)) t.size).size = t.size - Hd.size (Hd.byte t.data.toList 0) := by simp
          have hc0 := cut_ok t wr h0 Hm.out hok
          unfold okV at hc0
          generalize Hd.size (Hd.byte t.data.toList 0) = sz at *
          generalize t.extract sz t.size = rest at *
          generalize Hd.insOf t.data.toList = I at *
          have hc : Calls Try.prog 36 #[.string t] wr fun e w' => e = .returned (.tuple #[.agg #[.int .u8 I.kind, .int .u8 I.a, .int .u8 I.b, .int .u8 I.c, .int .i64 (wrap64 I.num)], .string rest, .bool true]) ∧ Below wr.heap.size wr w' := hc0
          have Hstep : Hid (Hd.Far s.data.toList (ps ++ [p]) (p + sz)) := hstep
          have Hcells : Hid (listCells s.data.toList (ps ++ [p]) = listCells s.data.toList ps ++ insCells I) := hcells
          have Hrest : Hid (rest.data.toList = s.data.toList.drop (p + sz)) := hrest
          have Hrs : Hid (rest.size = t.size - sz) := hrs
          clear hc0 hstep hcells hrest hrs hok hlen
          have hbs := hbel.size
          go_wp2_with fail
          refine hc.mono ?_
          rintro e w1 ⟨rfl, hb⟩
          clear hc
          have hown1 := own_below hown hb
          have hbel1 : Below w.heap.size w w1 := hbel.trans (hb.mono hbs)
          have hbs1 := hbel1.size
          clear hown hbel hb hbs
          go_wp2_with (at_builtin; refine wpList_append_own _ rfl _ _ 66 rfl w.heap.size 92 i0 _ 5 16 Try.underlying66 hi hz0 hz1 hz2 rfl (by decide) _ _ _ rfl ((hown1.alloc _).alloc _) ⟨w1.heap.size + 1, 0, none⟩ 1 1 (insCells I) rfl rfl ?c1 ?c2 ?c3 ?c4 ?c5 ?_)
          case c1 =>
            have hnn := news_new (w1.alloc (.cells (insCells I).toArray 92)) (insCells I) 92
            have e : (w1.alloc (.cells (insCells I).toArray 92)).heap.size = w1.heap.size + 1 := by simp
            rw [e] at hnn
            exact hnn
          case c2 => intro u hu; simp [insCells] at hu; rcases hu with rfl | rfl | rfl | rfl | rfl <;> rfl
          case c3 => unfold maxLen; omega
          case c4 => omega
          case c5 => simp; omega
          · intro v' w2 hown' hgrow _
            have hge := own_ge hown1
            have hbel2 : Below w.heap.size w w2 := ((hbel1.alloc hbs1 _).alloc (by simp; omega) _).grown hgrow (by simp; omega) hge
            clear hgrow hown1 hbel1 hge
            obtain ⟨ao', cap', rfl⟩ := own_form hown'
            go_wp2
            go_roundw
            case rel => exact ⟨rest, ps ++ [p], p + sz, rfl, Hrest.out, by have := Hrs.out; have := Hm.out; omega, Hstep.out, by rw [Hcells.out]; simpa using hown', hbel2⟩
            case measure => simp [strLen]; have := Hrs.out; omega
    · have h0' : t.size = 0 := by omega
      have he := isEmpty_of0 t h0'
      have hpn : s.data.toList.length ≤ p := by have := Hpl.out; have := Hf.out.le; omega
      have hall := Hd.far_end Hf.out hpn
      clear h0
      have hlc : (Hd.insAt s.data.toList ps).length = ps.length := by simp [Hd.insAt]
      have hfew := Hf.out.few
      have hpr : Hd.prog s.data.toList = if Hd.within (Hd.insAt s.data.toList ps) = true then some ps else none := by unfold Hd.prog; rw [hall]
      have Hpr : Hid (Hd.prog s.data.toList = if Hd.within (Hd.insAt s.data.toList ps) = true then some ps else none) := hpr
      have hbs := hbel.size
      have hc : Calls Try.prog 37 #[.slice ao ps.length cap] wr fun e w' => e = .returned (.bool (Hd.within (Hd.insAt s.data.toList ps))) ∧ Below wr.heap.size wr w' :=
        within_own hown hfew (fun q hq => (Hf.out.each q hq).1)
      clear hpr hall hlc hfew
      generalize hW : Hd.within (Hd.insAt s.data.toList ps) = W at *
      have HW : Hid (Hd.within (Hd.insAt s.data.toList ps) = W) := hW
      clear hW
      cases W with
      | false =>
        go_wp2_with fail
        refine hc.mono ?_
        rintro e w1 ⟨rfl, hb⟩
        go_wp2
        go_ret2
        exact ⟨decEnd_no (by rw [Hpr.out, if_neg (by simp)]), hbel.trans (hb.mono hbs)⟩
      | true =>
        go_wp2_with fail
        refine hc.mono ?_
        rintro e w1 ⟨rfl, hb⟩
        go_wp2
        go_ret2
        refine ⟨⟨fun ps' hp => ?_, fun hp => absurd ((Hpr.out).symm.trans hp) (by simp)⟩, hbel.trans (hb.mono hbs)⟩
        have e : ps' = ps := by have := Hpr.out.symm.trans hp; simpa using this.symm
        subst e
        exact ⟨_, rfl, own_below hown hb⟩

end Go.Proofs.Ytedbdejhpjkofaa
