import Derived.Test.YtedbdejhpjkofaaW6
namespace Go.Proofs.Ytedbdejhpjkofaa
open Go.RowKit
set_option linter.unusedVariables false

set_option maxHeartbeats 400000 in
theorem shape_any (k : Nat) (w : World) (hkn : Hd.known k = true) :
    Calls Try.prog 27 #[.int .i64 k] w fun e w' => e = .returned (.tuple #[.int .i64 ((Hd.regs k + Hd.more k : Nat) : Int), .int .i64 (Hd.regs k)]) ∧ w' = w := by
  have h : 1 ≤ k ∧ k ≤ 11 := of_decide_eq_true hkn
  have hk : k = 1 ∨ k = 2 ∨ k = 3 ∨ k = 4 ∨ k = 5 ∨ k = 6 ∨ k = 7 ∨ k = 8 ∨ k = 9 ∨ k = 10 ∨ k = 11 := by omega
  clear h hkn
  rcases hk with rfl | rfl | rfl | rfl | rfl | rfl | rfl | rfl | rfl | rfl | rfl
  all_goals
    go_enter Try.func27, Try.ntmps27
    go_wp2
    go_ret2
    exact ⟨by simp [Hd.regs, Hd.more], rfl⟩

set_option maxHeartbeats 400000 in
theorem shape_no (k : Nat) (w : World) (hkn : Hd.known k = false) :
    Calls Try.prog 27 #[.int .i64 k] w fun e w' => e = .returned (.tuple #[.int .i64 (-1), .int .i64 0]) ∧ w' = w := by
  have h : ¬ (1 ≤ k ∧ k ≤ 11) := of_decide_eq_false hkn
  have h1 : ((k : Int) == 1) = false := by simp; omega
  have h2 : ((k : Int) == 2) = false := by simp; omega
  have h3 : ((k : Int) == 3) = false := by simp; omega
  have h4 : ((k : Int) == 4) = false := by simp; omega
  have h5 : ((k : Int) == 5) = false := by simp; omega
  have h6 : ((k : Int) == 6) = false := by simp; omega
  have h7 : ((k : Int) == 7) = false := by simp; omega
  have h8 : ((k : Int) == 8) = false := by simp; omega
  have h9 : ((k : Int) == 9) = false := by simp; omega
  have h10 : ((k : Int) == 10) = false := by simp; omega
  have h11 : ((k : Int) == 11) = false := by simp; omega
  clear h hkn
  go_enter Try.func27, Try.ntmps27
  go_wp2
  go_ret2
  exact ⟨rfl, rfl⟩

theorem Try.info3 : (Try.prog.info? 3).map (fun i => (i.zero, i.size, i.bytes)) = some (some (.int .i64 0), 1, 8) := by kernel_rfl

def natCells (ps : List Nat) : List Value := ps.map (fun (p : Nat) => .int .i64 (p : Int))

theorem natCells_snoc (ps : List Nat) (p : Nat) : natCells (ps ++ [p]) = natCells ps ++ [.int .i64 (p : Int)] := by simp [natCells]

theorem byte_drop (L : List UInt8) (p i : Nat) : Hd.byte (L.drop p) i = Hd.byte L (p + i) := by
  unfold Hd.byte
  rw [List.getD_eq_getElem?_getD, List.getD_eq_getElem?_getD, List.getElem?_drop]

/-- the first instruction at p: is it whole -/
theorem okOne_at (L : List UInt8) (p : Nat) : Hd.okOne (L.drop p) = true ↔ Hd.known (Hd.byte L p) = true ∧ Hd.size (Hd.byte L p) ≤ L.length - p ∧ ∀ i, i < Hd.regs (Hd.byte L p) → Hd.byte L (p + (1 + i)) < 8 := by
  unfold Hd.okOne
  simp only [Bool.and_eq_true, decide_eq_true_eq, List.length_drop, byte_drop, Nat.add_zero]

theorem okOne_not (L : List UInt8) (p : Nat) (h : ¬ (Hd.known (Hd.byte L p) = true ∧ Hd.size (Hd.byte L p) ≤ L.length - p ∧ ∀ i, i < Hd.regs (Hd.byte L p) → Hd.byte L (p + (1 + i)) < 8)) : Hd.okOne (L.drop p) = false := by
  cases hk : Hd.okOne (L.drop p) with
  | false => rfl
  | true => exact absurd ((okOne_at L p).1 hk) h

/-- how begins ends -/
def BegEnd (L : List UInt8) (base : Nat) (e : Ending) (w' : World) : Prop :=
  (∀ ps, Hd.prog L = some ps → ∃ v, e = .returned (.tuple #[v, .bool true]) ∧ w'.ownsRow base 3 1 v ps.length (natCells ps)) ∧
  (Hd.prog L = none → e = .returned (.tuple #[.slice none 0 0, .bool false]))

theorem begEnd_no {L : List UInt8} {base : Nat} {w' : World} (h : Hd.prog L = none) : BegEnd L base (.returned (.tuple #[.slice none 0 0, .bool false])) w' :=
  ⟨fun ps hp => absurd (h.symm.trans hp) (by simp), fun _ => rfl⟩

theorem prog_far_no {L : List UInt8} {ps : List Nat} {p : Nat} (h : Hd.Far L ps p) (hp : p < L.length) (hk : Hd.okOne (L.drop p) = false) : Hd.prog L = none := by
  unfold Hd.prog; rw [Hd.far_no h hp hk]
theorem prog_far_full {L : List UInt8} {ps : List Nat} {p : Nat} (h : Hd.Far L ps p) (hp : p < L.length) (hl : ps.length = 256) : Hd.prog L = none := by
  unfold Hd.prog; rw [Hd.far_full h hp hl]

theorem nine_len (L : List UInt8) (q : Nat) (h : Hd.okOne (L.drop q) = true) : Hd.byte L q = 9 → q + 3 < L.length := by
  intro h9
  have := ((okOne_at L q).1 h).2.1
  rw [h9] at this
  simp [Hd.size, Hd.regs, Hd.more] at this
  omega

theorem nine_num (L : List UInt8) (q : Nat) (h : Hd.okOne (L.drop q) = true) (h9 : Hd.byte L q = 9) : (Hd.insOf (L.drop q)).num = Hd.byte L (q + 3) := by
  have hl := nine_len L q h h9
  show Hd.numU (((L.drop q).drop (1 + Hd.regs (Hd.byte (L.drop q) 0))).take (Hd.more (Hd.byte (L.drop q) 0))) = _
  rw [byte_drop, Nat.add_zero, h9, List.drop_drop]
  have e1 : q + (1 + Hd.regs 9) = q + 3 := by simp [Hd.regs]
  have e2 : Hd.more 9 = 1 := by simp [Hd.more]
  rw [e1, e2]
  have e3 : (L.drop (q + 3)).take 1 = [L[q + 3]] := by
    rw [List.drop_eq_getElem_cons hl]; rfl
  rw [e3]
  unfold Hd.numU Hd.byte
  rw [List.getD_eq_getElem?_getD, List.getElem?_eq_getElem hl]
  simp

theorem insAt_get (L : List UInt8) (ps : List Nat) (i : Nat) (hi : i < ps.length) (hi' : i < (Hd.insAt L ps).length) : (Hd.insAt L ps)[i] = Hd.insOf (L.drop ps[i]) := by simp [Hd.insAt]
theorem insAt_len (L : List UInt8) (ps : List Nat) : (Hd.insAt L ps).length = ps.length := by simp [Hd.insAt]

theorem kind_at (L : List UInt8) (q : Nat) : (Hd.insOf (L.drop q)).kind = Hd.byte L q := by
  show Hd.byte (L.drop q) 0 = _
  rw [byte_drop, Nat.add_zero]

theorem within_bytes_yes (L : List UInt8) (ps : List Nat) (hok : ∀ q, q ∈ ps → Hd.okOne (L.drop q) = true) (h : ∀ i (h : i < ps.length), Hd.byte L ps[i] = 9 → Hd.byte L (ps[i] + 3) + i + 1 ≤ ps.length) : Hd.within (Hd.insAt L ps) = true := by
  refine within_yes _ fun i hi hk => ?_
  have hl := insAt_len L ps
  have hi2 : i < ps.length := by omega
  rw [insAt_get L ps i hi2 hi] at hk ⊢
  rw [kind_at] at hk
  rw [nine_num L _ (hok _ (List.getElem_mem hi2)) hk, hl]
  exact h i hi2 hk

theorem within_bytes_no (L : List UInt8) (ps : List Nat) (i : Nat) (hi : i < ps.length) (hok : Hd.okOne (L.drop ps[i]) = true) (h9 : Hd.byte L ps[i] = 9) (h : ps.length < Hd.byte L (ps[i] + 3) + i + 1) : Hd.within (Hd.insAt L ps) = false := by
  have hl := insAt_len L ps
  have hi2 : i < (Hd.insAt L ps).length := by omega
  refine within_not _ i hi2 ?_ ?_
  · rw [insAt_get L ps i hi hi2, kind_at]; exact h9
  · rw [insAt_get L ps i hi hi2, nine_num L _ hok h9, hl]; exact h

theorem own_cell {w : World} {base cap : Nat} {ps : List Nat} {ao : Option Addr} (h : w.ownsRow base 3 1 (.slice ao ps.length cap) ps.length (natCells ps)) (k : Nat) (hk : k < ps.length) :
    ∃ g, ao = some ⟨g, 0, none⟩ ∧ w.cell? ⟨g, k, none⟩ = some (.int .i64 (ps[k] : Int)) := by
  rcases h.2 with ⟨hv, hz⟩ | ⟨g, cap', cur, hv, hbase, hg, _⟩
  · omega
  · simp only [Value.slice.injEq] at hv
    obtain ⟨rfl, _, rfl⟩ := hv
    refine ⟨g, rfl, ?_⟩
    have hc := h.cells (g := g) rfl k (.int .i64 (ps[k] : Int)) (by simp [natCells, hk])
    have hadd : (⟨g, 0, none⟩ : Addr).add k = ⟨g, k, none⟩ := by unfold Addr.add; split <;> simp_all
    rwa [hadd] at hc

set_option maxRecDepth 100000 in
set_option maxHeartbeats 1000000 in
theorem begins_any (s : ByteArray) (w : World) (hs : s.size ≤ 140737488351232) :
    Calls Try.prog 18 #[.string s] w fun e w' => BegEnd s.data.toList w.heap.size e w' ∧ Below w.heap.size w w' := by
  obtain ⟨i0, hi, hz0, hz1, hz2⟩ := info_parts Try.info3
  go_enter Try.func18, Try.ntmps18
  go_wp2
  go_loopw [4, 5] (fun v a wr => ∃ (ps : List Nat) (p : Nat), a = .int .i64 p ∧ Hd.Far s.data.toList ps p ∧
      wr.ownsRow w.heap.size 3 1 v ps.length (natCells ps) ∧ Below w.heap.size w wr) (fun _ a _ => s.size - (intOf a).toNat)
  case atStart => exact ⟨[], 0, rfl, Hd.far_start _, World.ownsRow_nil _ _ _ _, Below.refl _ _⟩
  case round =>
    obtain ⟨ps, p, rfl, hf, hown, hbel⟩ := hrel
    have hsl : s.data.toList.length = s.size := by simp
    have Hsl : Hid (s.data.toList.length = s.size) := hsl
    have Hf : Hid (Hd.Far s.data.toList ps p) := hf
    have hple := hf.le
    rw [hsl] at hple
    clear hf hsl
    obtain ⟨ao, cap, rfl⟩ := own_form hown
    by_cases hpn : p < s.size
    · have e0 := Hd.byte_get s p hpn
      have hpL : p < s.data.toList.length := by rw [Hsl.out]; exact hpn
      have hat := okOne_at s.data.toList p
      rw [e0, Hsl.out] at hat
      have hb := UInt8.toNat_lt (s[p]'hpn)
      cases hkn : Hd.known (s[p]'hpn).toNat with
      | false =>
        have hc := fun w => shape_no (s[p]'hpn).toNat w hkn
        have hN := prog_far_no Hf.out hpL (Bool.eq_false_iff.2 (fun h => by rw [hkn] at hat; simpa using hat.1 h))
        have HN : Hid (Hd.prog s.data.toList = none) := hN
        clear hN hkn e0 hat
        go_wp2_with fail
        refine (hc _).mono ?_
        rintro e w1 ⟨rfl, rfl⟩
        go_wp2
        go_ret2
        exact ⟨begEnd_no HN.out, hbel⟩
      | true =>
        have hc := fun w => shape_any (s[p]'hpn).toNat w hkn
        have hr := Hd.regs_le (s[p]'hpn).toNat
        have hm := Hd.more_le (s[p]'hpn).toNat
        have hsz : Hd.size (s[p]'hpn).toNat = 1 + (Hd.regs (s[p]'hpn).toNat + Hd.more (s[p]'hpn).toNat) := by unfold Hd.size; omega
        have Hat : Hid (Hd.okOne (s.data.toList.drop p) = true ↔ (1 + (Hd.regs (s[p]'hpn).toNat + Hd.more (s[p]'hpn).toNat) ≤ s.size - p ∧ ∀ i, i < Hd.regs (s[p]'hpn).toNat → Hd.byte s.data.toList (p + (1 + i)) < 8)) := by
          rw [hat, hkn, hsz]; exact ⟨fun h => h.2, fun h => ⟨rfl, h⟩⟩
        have Hstep : Hid (Hd.okOne (s.data.toList.drop p) = true → ps.length < 256 → Hd.Far s.data.toList (ps ++ [p]) (p + (1 + (Hd.regs (s[p]'hpn).toNat + Hd.more (s[p]'hpn).toNat)))) := fun h1 h2 => by
          have := Hd.far_step Hf.out hpL h1 h2
          rw [byte_drop, Nat.add_zero, e0, hsz] at this
          exact this
        clear hsz hkn e0 hat
        generalize hn : Hd.regs (s[p]'hpn).toNat = n at *
        generalize hmm : Hd.more (s[p]'hpn).toNat = m at *
        clear hn hmm
        by_cases hshort : s.size < p + 1 + (n + m)
        · have hN := prog_far_no Hf.out hpL (Bool.eq_false_iff.2 (fun h => by have := (Hat.out.1 h).1; omega))
          have HN : Hid (Hd.prog s.data.toList = none) := hN
          clear hN
          go_wp2_with fail
          refine (hc _).mono ?_
          rintro e w1 ⟨rfl, rfl⟩
          go_wp2
          go_ret2
          exact ⟨begEnd_no HN.out, hbel⟩
        · by_cases h256 : ps.length = 256
          · have hN := prog_far_full Hf.out hpL h256
            have HN : Hid (Hd.prog s.data.toList = none) := hN
            have hb256 : ((ps.length : Int) == 256) = true := by simp; omega
            clear hN
            go_wp2_with fail
            refine (hc _).mono ?_
            rintro e w1 ⟨rfl, rfl⟩
            go_wp2
            go_ret2
            exact ⟨begEnd_no HN.out, hbel⟩
          · have hb256 : ((ps.length : Int) == 256) = false := by simp; omega
            have hfew := Hf.out.few
            cases hok : Hd.okOne (s.data.toList.drop p) with
            | false =>
              have hN := prog_far_no Hf.out hpL hok
              have HN : Hid (Hd.prog s.data.toList = none) := hN
              have Hok : Hid (Hd.okOne (s.data.toList.drop p) = false) := hok
              clear hN hok
              go_wp2_with fail
              refine (hc _).mono ?_
              rintro e w1 ⟨rfl, rfl⟩
              go_wp2
              go_loop [8] (fun i => ∃ j : Nat, j ≤ n ∧ i = .int .i64 (1 + j) ∧ ∀ i, i < j → Hd.byte s.data.toList (p + (1 + i)) < 8) (fun i => n + 1 - (intOf i).toNat)
              case atStart => exact ⟨0, Nat.zero_le _, rfl, fun i h => absurd h (Nat.not_lt_zero _)⟩
              case round =>
                obtain ⟨j, hj, rfl, hall⟩ := hrel
                by_cases hjn : j < n
                · have hin : p + (1 + j) < s.size := by omega
                  have hin2 : (p : Int) + (1 + (j : Int)) < (s.size : Int) := by omega
                  have hge : (0 : Int) ≤ (p : Int) + (1 + (j : Int)) := by omega
                  have ej := Hd.byte_get s (p + (1 + j)) hin
                  have Hall : Hid (∀ i, i < j → Hd.byte s.data.toList (p + (1 + i)) < 8) := hall
                  have Ej : Hid (Hd.byte s.data.toList (p + (1 + j)) = (s[p + (1 + j)]'hin).toNat) := ej
                  clear hall ej
                  go_wp2
                  · go_ret2
                    exact ⟨begEnd_no HN.out, hbel⟩
                  · have h7 : ((s[p + (1 + j)]'hin).toNat : Int) ≤ 7 := by assumption
                    go_round
                    case rel =>
                      refine ⟨j + 1, by omega, by go_num, fun i h => ?_⟩
                      by_cases e : i = j
                      · rw [e, Ej.out]; omega
                      · exact Hall.out i (by omega)
                    case measure => simp [intOf]; omega
                · exfalso
                  have := Hat.out.2 ⟨by omega, fun i h => hall i (by omega)⟩
                  rw [Hok.out] at this
                  cases this
            | true =>
              have hregs := (Hat.out.1 hok).2
              have Hregs : Hid (∀ i, i < n → Hd.byte s.data.toList (p + (1 + i)) < 8) := hregs
              have Hfar : Hid (Hd.Far s.data.toList (ps ++ [p]) (p + (1 + (n + m)))) := Hstep.out hok (by omega)
              clear hregs hok Hstep Hat
              go_wp2_with fail
              refine (hc _).mono ?_
              rintro e w1 ⟨rfl, rfl⟩
              clear hc
              have hbs := hbel.size
              go_wp2
              go_loop [8] (fun i => ∃ j : Nat, j ≤ n ∧ i = .int .i64 (1 + j)) (fun i => n + 1 - (intOf i).toNat)
              case atStart => exact ⟨0, Nat.zero_le _, rfl⟩
              case round =>
                obtain ⟨j, hj, rfl⟩ := hrel
                by_cases hjn : j < n
                · have hin : p + (1 + j) < s.size := by omega
                  have hin2 : (p : Int) + (1 + (j : Int)) < (s.size : Int) := by omega
                  have hge : (0 : Int) ≤ (p : Int) + (1 + (j : Int)) := by omega
                  have h7 : ((s[p + (1 + j)]'hin).toNat : Int) ≤ 7 := by
                    have := Hregs.out j hjn
                    rw [Hd.byte_get s (p + (1 + j)) hin] at this
                    omega
                  go_wp2
                  go_round
                  case rel => exact ⟨j + 1, by omega, by go_num⟩
                  case measure => simp [intOf]; omega
                · go_wp2_with (at_builtin; refine wpList_append_own _ rfl _ _ 37 rfl w.heap.size 3 i0 _ 1 8 Try.underlying37 hi hz0 hz1 hz2 rfl (by decide) _ _ _ rfl (hown.alloc _) ⟨w1.heap.size, 0, none⟩ 1 1 [.int .i64 p] rfl rfl ?c1 ?c2 ?c3 ?c4 ?c5 ?_)
                  case c2 => first | rfl | (intro u hu; simp at hu; subst hu; rfl)
                  case c3 => unfold maxLen; omega
                  case c4 => omega
                  case c5 => first | omega | (simp; omega)
                  · intro v' w2 hown' hgrow _
                    have hge := own_ge hown
                    have hbel2 : Below w.heap.size w w2 := (hbel.alloc hbs _).grown hgrow (by simp; omega) hge
                    clear hgrow hown hbel hge
                    obtain ⟨ao', cap', rfl⟩ := own_form hown'
                    go_wp2
                    go_roundw
                    case rel => exact ⟨ps ++ [p], p + (1 + (n + m)), by go_num, Hfar.out, by rw [natCells_snoc]; simpa using hown', hbel2⟩
                    case measure => simp [intOf]; omega
    · have hall := Hd.far_end Hf.out (by rw [Hsl.out]; omega)
      have hfew := Hf.out.few
      have hpr : Hd.prog s.data.toList = if Hd.within (Hd.insAt s.data.toList ps) = true then some ps else none := by unfold Hd.prog; rw [hall]
      have Hpr : Hid (Hd.prog s.data.toList = if Hd.within (Hd.insAt s.data.toList ps) = true then some ps else none) := hpr
      have Hall : Hid (∀ q, q ∈ ps → Hd.okOne (s.data.toList.drop q) = true ∧ q < s.data.toList.length) := Hf.out.each
      clear hpr hall Hf
      go_wp2_with fail
      go_loop [9] (fun i => ∃ k : Nat, k ≤ ps.length ∧ i = .int .i64 k ∧ ∀ i (h : i < ps.length), i < k → Hd.byte s.data.toList ps[i] = 9 → Hd.byte s.data.toList (ps[i] + 3) + i + 1 ≤ ps.length) (fun i => ps.length - (intOf i).toNat)
      case atStart => exact ⟨0, Nat.zero_le _, rfl, fun i _ h => absurd h (Nat.not_lt_zero _)⟩
      case round =>
        obtain ⟨k, hk, rfl, hwi⟩ := hrel
        by_cases hkl : k < ps.length
        · obtain ⟨g, rfl, hcell⟩ := own_cell hown k hkl
          have hq := Hall.out ps[k] (List.getElem_mem hkl)
          have Hno : Hid _ := within_bytes_no s.data.toList ps k hkl hq.1
          have Hwi : Hid (∀ i (h : i < ps.length), i < k → Hd.byte s.data.toList ps[i] = 9 → Hd.byte s.data.toList (ps[i] + 3) + i + 1 ≤ ps.length) := hwi
          have Hkl : Hid (k < ps.length) := hkl
          have hq2 := hq.2
          rw [Hsl.out] at hq2
          have hqe : Hid (∀ q, q = ps[k]'Hkl.out → True) := fun _ _ => trivial
          have e9 := Hd.byte_get s ps[k] hq2
          have h4 := nine_len s.data.toList ps[k] hq.1
          rw [Hsl.out] at h4
          clear hwi hqe hq
          generalize hqq : ps[k] = q at *
          have Hqq : Hid (ps[k]'Hkl.out = q) := hqq
          clear hqq
          have hlt := UInt8.toNat_lt (s[q]'hq2)
          by_cases h9 : Hd.byte s.data.toList q = 9
          · have hq3 := h4 h9
            have e3 := Hd.byte_get s (q + 3) hq3
            have hlt3 := UInt8.toNat_lt (s[q + 3]'hq3)
            rw [e9] at h9
            have b9 : (((s[q]'hq2).toNat : Int) == 9) = true := by simp; omega
            have E9 : Hid (Hd.byte s.data.toList q = 9) := e9.trans h9
            have E3 : Hid (Hd.byte s.data.toList (q + 3) = (s[q + 3]'hq3).toNat) := e3
            clear h9 e3 e9 h4
            by_cases hw : (s[q + 3]'hq3).toNat + k + 1 ≤ ps.length
            · go_wp2
              go_round
              case rel =>
                refine ⟨k + 1, by omega, by go_num, fun i hi hik hi9 => ?_⟩
                by_cases e : i = k
                · subst e; rw [Hqq.out, E3.out]; exact hw
                · exact Hwi.out i hi (by omega) hi9
              case measure => simp [intOf]; omega
            · have HN : Hid (Hd.prog s.data.toList = none) := by
                have := Hno.out E9.out (by rw [E3.out]; omega)
                have h := Hpr.out
                rw [this] at h
                have h2 : Hd.prog s.data.toList = none := by simpa using h
                exact h2
              go_wp2
              go_ret2
              exact ⟨begEnd_no HN.out, hbel⟩
          · have h9' := h9
            rw [e9] at h9
            have b9 : (((s[q]'hq2).toNat : Int) == 9) = false := by simp; omega
            have E9 : Hid (¬ Hd.byte s.data.toList q = 9) := h9'
            clear h9 h9' e9 h4
            go_wp2
            go_round
            case rel =>
              refine ⟨k + 1, by omega, by go_num, fun i hi hik hi9 => ?_⟩
              by_cases e : i = k
              · subst e; rw [Hqq.out] at hi9; exact absurd hi9 E9.out
              · exact Hwi.out i hi (by omega) hi9
            case measure => simp [intOf]; omega
        · have hyes := within_bytes_yes s.data.toList ps (fun q hq => (Hall.out q hq).1) (fun i hi h9 => hwi i hi (by omega) h9)
          have Hyes : Hid (Hd.prog s.data.toList = some ps) := by
            have h := Hpr.out
            rw [hyes, if_pos rfl] at h
            exact h
          clear hyes hwi
          go_wp2
          go_ret2
          refine ⟨⟨fun ps' hp => ?_, fun hp => absurd ((Hyes.out).symm.trans hp) (by simp)⟩, hbel⟩
          have e : ps' = ps := by have := Hyes.out.symm.trans hp; simpa using this.symm
          subst e
          exact ⟨_, rfl, hown⟩

end Go.Proofs.Ytedbdejhpjkofaa
