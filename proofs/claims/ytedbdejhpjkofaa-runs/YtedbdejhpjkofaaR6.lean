import Derived.Test.YtedbdejhpjkofaaR5
import Derived.Deep.RegionHeld3
import Derived.Deep.RegionLaw
import Derived.Deep.AppendLies
namespace Go.Proofs.Ytedbdejhpjkofaa
open Go.RowKit Go.Maps
set_option linter.unusedVariables false
set_option linter.unusedSimpArgs false

/-- how executed ends -/
def DoneAt (w : World) (st : Int) (sf : Hd.St) (e : Ending) (w' : World) : Prop :=
  ∃ (tv rv wv : Value) (ms : List Hd.Mark), e = .returned (.agg #[.int .i64 st, tv, rv, wv]) ∧ w'.ownsRow w.heap.size 3 1 tv sf.T.length (sf.T.map (Value.int .i64)) ∧ w'.ownsRow w.heap.size 75 3 wv ms.length (markCells ms) ∧ sf.W = Hd.marksW ms ∧ ms.length ≤ 256 ∧ sf.T.length ≤ 256 ∧ Below w.heap.size w w' ∧ w'.ownsRow w.heap.size 3 1 rv sf.R.length (sf.R.map (Value.int .i64)) ∧ sf.R.length ≤ 256 ∧ Hd.plainM ms

/-- what stands between two instructions -/
structure Mid (w1 wr : World) (S : Int → Option Int) (Is : List Hd.Ins) (k : Nat) (tv rv wv : Value) (R : List Int) (ms : List Hd.Mark) (st : Hd.St) : Prop where
  ex : Exec wr (w1.heap.size + 2) w1.heap.size (w1.heap.size + 1) tv rv wv R ms st
  lr : R.length ≤ k
  lm : ms.length ≤ k
  lt : st.T.length ≤ k
  run : Hd.runAll S Is = Hd.runS S Is (Is.length - k) k st
  bel : Below w1.heap.size w1 wr

theorem tmod8 (a : Nat) (h : a < 8) : (wrap64 (a : Int)).tmod 8 = a := by
  have e : wrap64 (a : Int) = a := by unfold wrap64; omega
  rw [e]
  have : Int.tmod (a : Int) 8 = ((a % 8 : Nat) : Int) := by rw [Int.tmod_eq_emod_of_nonneg (by omega)]; omega
  rw [this, Nat.mod_eq_of_lt h]

theorem tmodv (a : Nat) (h : a < 8) : Value.int .i64 ((wrap64 (a : Int)).tmod 8) = .int .i64 (a : Int) := by rw [tmod8 a h]

theorem res4 {W : World} {B : Nat} {a b c d : Value} (h : W.heap[B]? = some (.cells #[a, b, c, d] 78 (0, 0))) (x0 x1 x2 x3 : Value) :
    W.cell? ⟨B, 0, none⟩ = some a ∧ W.frozen? ⟨B, 0, none⟩ = false ∧ (W.setCell ⟨B, 0, none⟩ x0).cell? ⟨B, 1, none⟩ = some b ∧ (W.setCell ⟨B, 0, none⟩ x0).frozen? ⟨B, 1, none⟩ = false ∧ ((W.setCell ⟨B, 0, none⟩ x0).setCell ⟨B, 1, none⟩ x1).cell? ⟨B, 2, none⟩ = some c ∧ ((W.setCell ⟨B, 0, none⟩ x0).setCell ⟨B, 1, none⟩ x1).frozen? ⟨B, 2, none⟩ = false ∧ (((W.setCell ⟨B, 0, none⟩ x0).setCell ⟨B, 1, none⟩ x1).setCell ⟨B, 2, none⟩ x2).cell? ⟨B, 3, none⟩ = some d ∧ (((W.setCell ⟨B, 0, none⟩ x0).setCell ⟨B, 1, none⟩ x1).setCell ⟨B, 2, none⟩ x2).frozen? ⟨B, 3, none⟩ = false ∧ Hid (((((W.setCell ⟨B, 0, none⟩ x0).setCell ⟨B, 1, none⟩ x1).setCell ⟨B, 2, none⟩ x2).setCell ⟨B, 3, none⟩ x3).heap[B]? = some (.cells #[x0, x1, x2, x3] 78 (0, 0))) := by
  have h1 : (W.setCell ⟨B, 0, none⟩ x0).heap[B]? = some (.cells #[x0, b, c, d] 78 (0, 0)) := by rw [heap_setCell_same W B 0 _ 78 _ h]; rfl
  have h2 := d_set1 h1 x1
  have h3 := d_set2 h2 x2
  have h4 := d_set3 h3 x3
  refine ⟨?_, xfree h 0, ?_, xfree h1 1, ?_, xfree h2 2, ?_, xfree h3 3, h4⟩
  · rw [cell_of_row _ _ 0 _ 78 (0, 0) h]; rfl
  · rw [cell_of_row _ _ 1 _ 78 (0, 0) h1]; rfl
  · rw [cell_of_row _ _ 2 _ 78 (0, 0) h2]; rfl
  · rw [cell_of_row _ _ 3 _ 78 (0, 0) h3]; rfl

theorem text_nine {t : ByteArray} {i : Hd.Ins} (h : Text t i) (hk : i.kind = 9) : ∃ h3 : 3 < t.size, (t[3]'h3).toNat = i.num ∧ i.num < 256 := by
  have hs := h.size
  have hn := h.num
  rw [hk] at hs hn
  have h3 : 3 < t.size := by have : Hd.size 9 = 4 := rfl; omega
  have e : (t.data.toList.drop 3).take 1 = [t[3]'h3] := by
    rw [List.drop_eq_getElem_cons (by simpa using h3)]
    rfl
  have hn2 : i.num = Hd.numU ((t.data.toList.drop 3).take 1) := hn
  rw [e] at hn2
  have e2 : Hd.numU [t[3]'h3] = (t[3]'h3).toNat := by simp [Hd.numU]
  rw [e2] at hn2
  exact ⟨h3, hn2.symm, by rw [hn2]; exact UInt8.toNat_lt _⟩

theorem text_one {t : ByteArray} {i : Hd.Ins} (h : Text t i) (hk : i.kind = 1) : i.num = Hd.numU (t.extract 2 10).data.toList := by
  have hn := h.num
  rw [hk] at hn
  rw [ext_list]
  exact hn

theorem Exec.cells {w : World} {base bd br : Nat} {tv rv wv : Value} {R : List Int} {ms : List Hd.Mark} {s : Hd.St} (h : Exec w base bd br tv rv wv R ms s) :
    w.cell? ⟨bd, 0, none⟩ = some (.int .i64 2) ∧ w.cell? ⟨bd, 1, none⟩ = some tv ∧ w.cell? ⟨bd, 2, none⟩ = some rv ∧ w.cell? ⟨bd, 3, none⟩ = some wv ∧ (∀ a, w.frozen? ⟨bd, a, none⟩ = false) ∧ (∀ a, w.frozen? ⟨br, a, none⟩ = false) ∧ (∀ a, a < 8 → w.cell? ⟨br, a, none⟩ = some (.int .i64 (s.rs.getD a 0))) := by
  refine ⟨?_, ?_, ?_, ?_, xfree h.d, xfree h.r, fun a ha => xreg h.r a (by rw [h.len]; exact ha)⟩
  · rw [cell_of_row w _ 0 _ 78 (0, 0) h.d]; rfl
  · rw [cell_of_row w _ 1 _ 78 (0, 0) h.d]; rfl
  · rw [cell_of_row w _ 2 _ 78 (0, 0) h.d]; rfl
  · rw [cell_of_row w _ 3 _ 78 (0, 0) h.d]; rfl

theorem Try.info75 : (Try.prog.info? 75).map (fun i => (i.zero, i.size, i.bytes)) = some (some (.agg #[.int .i64 0, .int .i64 0, .bool false]), 3, 24) := by kernel_rfl

theorem mid_step {w1 wr wr' : World} {S : Int → Option Int} {Is : List Hd.Ins} {k : Nat} {tv rv wv tv' rv' wv' : Value} {R R' : List Int} {ms ms' : List Hd.Mark} {sk sk' : Hd.St} {i : Hd.Ins} (h : Mid w1 wr S Is k tv rv wv R ms sk) (hi : ∃ h : k < Is.length, Is[k] = i) (h11 : i.kind ≠ 11) (h9 : i.kind ≠ 9) (hs : Hd.stepS S i sk = sk')
    (hx : Exec wr' (w1.heap.size + 2) w1.heap.size (w1.heap.size + 1) tv' rv' wv' R' ms' sk') (hR : R'.length ≤ R.length + 1) (hm : ms'.length ≤ ms.length + 1) (hb : Below w1.heap.size w1 wr') : Mid w1 wr' S Is (k + 1) tv' rv' wv' R' ms' sk' := by
  obtain ⟨hk, hi⟩ := hi
  have hT : sk'.T.length ≤ sk.T.length + 1 := by rw [← hs]; exact Hd.step_told S i sk
  refine ⟨hx, by have := h.lr; omega, by have := h.lm; omega, by have := h.lt; omega, ?_, hb⟩
  rw [h.run]
  obtain ⟨f, hf⟩ : ∃ f, Is.length - k = f + 1 := ⟨Is.length - k - 1, by omega⟩
  have hf2 : Is.length - (k + 1) = f := by omega
  rw [hf, hf2, Hd.run_step S Is f k sk hk (by rw [hi]; exact h11) (by rw [hi]; exact h9), hi, hs]

theorem own_set_lt {V : World} {base e size n : Nat} {v : Value} {xs : List Value} (h : V.ownsRow base e size v n xs) (p : Addr) (u : Value) (hp : p.block < base) : (V.setCell p u).ownsRow base e size v n xs := own_set h (own_ge2 h hp) u

theorem mid_less {w1 wr : World} {S : Int → Option Int} {Is : List Hd.Ins} {k : Nat} {tv rv wv : Value} {R : List Int} {ms : List Hd.Mark} {sk : Hd.St} {i : Hd.Ins} (h : Mid w1 wr S Is k tv rv wv R ms sk) (hi : ∃ h : k < Is.length, Is[k] = i) (h9 : i.kind = 9) (hl : sk.rs.getD i.a 0 < sk.rs.getD i.b 0) (n : Nat) : Mid w1 (wr.drewN n) S Is (k + i.num + 1) tv rv wv R ms sk := by
  obtain ⟨hk, hi⟩ := hi
  refine ⟨h.ex.drewN n, by have := h.lr; omega, by have := h.lm; omega, by have := h.lt; omega, ?_, Below.drewN' h.bel n⟩
  rw [h.run]
  obtain ⟨f, hf⟩ : ∃ f, Is.length - k = f + 1 := ⟨Is.length - k - 1, by omega⟩
  have hf2 : Is.length - (k + i.num + 1) = f - i.num := by omega
  rw [hf, hf2, Hd.run_less S Is f k sk hk (by rw [hi]; exact h9) (by omega) (by rw [hi]; exact hl), hi]

theorem mid_not {w1 wr : World} {S : Int → Option Int} {Is : List Hd.Ins} {k : Nat} {tv rv wv : Value} {R : List Int} {ms : List Hd.Mark} {sk : Hd.St} {i : Hd.Ins} (h : Mid w1 wr S Is k tv rv wv R ms sk) (hi : ∃ h : k < Is.length, Is[k] = i) (h9 : i.kind = 9) (hl : ¬ sk.rs.getD i.a 0 < sk.rs.getD i.b 0) (n : Nat) : Mid w1 (wr.drewN n) S Is (k + 1) tv rv wv R ms sk := by
  obtain ⟨hk, hi⟩ := hi
  refine ⟨h.ex.drewN n, by have := h.lr; omega, by have := h.lm; omega, by have := h.lt; omega, ?_, Below.drewN' h.bel n⟩
  rw [h.run]
  obtain ⟨f, hf⟩ : ∃ f, Is.length - k = f + 1 := ⟨Is.length - k - 1, by omega⟩
  have hf2 : Is.length - (k + 1) = f := by omega
  rw [hf, hf2, Hd.run_not S Is f k sk hk (by rw [hi]; exact h9) (by rw [hi]; exact hl)]

end Go.Proofs.Ytedbdejhpjkofaa
