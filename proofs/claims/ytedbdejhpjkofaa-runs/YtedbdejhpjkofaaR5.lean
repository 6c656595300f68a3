import Derived.Test.YtedbdejhpjkofaaR4
namespace Go.Proofs.Ytedbdejhpjkofaa
open Go.RowKit Go.Maps
set_option linter.unusedVariables false
set_option linter.unusedSimpArgs false

theorem holdsL_below {w w' : World} {ao : Option Addr} {Ps : List (Int × Int)} (h : HoldsL w ao Ps) (hb : Below w.heap.size w w') : HoldsL w' ao Ps := by
  intro i hi
  obtain ⟨g, h1, h2, h3, h4⟩ := h i hi
  exact ⟨g, h1, Nat.lt_of_lt_of_le h2 hb.size, (hb.cell (p := ⟨g, i * 2, none⟩) h2).trans h3, (hb.cell (p := ⟨g, i * 2 + 1, none⟩) h2).trans h4⟩

/-- what the text from an instruction on begins with -/
structure Text (t : ByteArray) (i : Hd.Ins) : Prop where
  pos : 0 < t.size
  kind : (t[0]'pos).toNat = i.kind
  known : 1 ≤ i.kind ∧ i.kind ≤ 11
  size : Hd.size i.kind ≤ t.size
  a : 0 < Hd.regs i.kind → ∃ h : 1 < t.size, (t[1]'h).toNat = i.a ∧ i.a < 8
  b : 1 < Hd.regs i.kind → ∃ h : 2 < t.size, (t[2]'h).toNat = i.b ∧ i.b < 8
  c : 2 < Hd.regs i.kind → ∃ h : 3 < t.size, (t[3]'h).toNat = i.c ∧ i.c < 8
  num : i.num = Hd.numU ((t.data.toList.drop (1 + Hd.regs i.kind)).take (Hd.more i.kind))

theorem text_of (t : ByteArray) (l : List UInt8) (ht : t.data.toList = l) (hok : Hd.okOne l = true) : Text t (Hd.insOf l) := by
  subst ht
  have h := hok
  unfold Hd.okOne at h
  simp only [Bool.and_eq_true, decide_eq_true_eq] at h
  obtain ⟨h1, h2, h3⟩ := h
  have hl : t.data.toList.length = t.size := by simp
  rw [hl] at h2
  have hpos : 0 < t.size := by have := Hd.size_pos (Hd.byte t.data.toList 0); omega
  have e0 := Hd.byte_get t 0 hpos
  have hsz : Hd.size (Hd.byte t.data.toList 0) = 1 + Hd.regs (Hd.byte t.data.toList 0) + Hd.more (Hd.byte t.data.toList 0) := rfl
  unfold Hd.known at h1
  refine ⟨hpos, e0.symm, of_decide_eq_true h1, h2, ?_, ?_, ?_, rfl⟩
  · intro hr
    have hr' : 0 < Hd.regs (Hd.byte t.data.toList 0) := hr
    have hlt : 1 < t.size := by omega
    have e := Hd.byte_get t 1 hlt
    have := h3 0 hr'
    refine ⟨hlt, ?_, ?_⟩
    · show _ = (if 0 < Hd.regs (Hd.byte t.data.toList 0) then Hd.byte t.data.toList 1 else 0)
      rw [if_pos hr', e]
    · show (if 0 < Hd.regs (Hd.byte t.data.toList 0) then Hd.byte t.data.toList 1 else 0) < 8
      rw [if_pos hr']; exact this
  · intro hr
    have hr' : 1 < Hd.regs (Hd.byte t.data.toList 0) := hr
    have hlt : 2 < t.size := by omega
    have e := Hd.byte_get t 2 hlt
    have := h3 1 hr'
    refine ⟨hlt, ?_, ?_⟩
    · show _ = (if 1 < Hd.regs (Hd.byte t.data.toList 0) then Hd.byte t.data.toList 2 else 0)
      rw [if_pos hr', e]
    · show (if 1 < Hd.regs (Hd.byte t.data.toList 0) then Hd.byte t.data.toList 2 else 0) < 8
      rw [if_pos hr']; exact this
  · intro hr
    have hr' : 2 < Hd.regs (Hd.byte t.data.toList 0) := hr
    have hlt : 3 < t.size := by omega
    have e := Hd.byte_get t 3 hlt
    have := h3 2 hr'
    refine ⟨hlt, ?_, ?_⟩
    · show _ = (if 2 < Hd.regs (Hd.byte t.data.toList 0) then Hd.byte t.data.toList 3 else 0)
      rw [if_pos hr', e]
    · show (if 2 < Hd.regs (Hd.byte t.data.toList 0) then Hd.byte t.data.toList 3 else 0) < 8
      rw [if_pos hr']; exact this

theorem prog_each {L : List UInt8} {ps : List Nat} (h : Hd.prog L = some ps) : ps.length ≤ 256 ∧ ∀ q, q ∈ ps → Hd.okOne (L.drop q) = true := by
  unfold Hd.prog at h
  cases hb : Hd.begs 256 0 L with
  | none => rw [hb] at h; cases h
  | some qs =>
    rw [hb] at h
    simp only at h
    split at h
    · injection h with h
      subst h
      exact begs_each L 256 0 qs hb
    · cases h

theorem ok_lt {L : List UInt8} {q : Nat} (h : Hd.okOne (L.drop q) = true) : q < L.length := by
  have := Hd.okOne_size _ h
  have := Hd.size_pos (Hd.byte (L.drop q) 0)
  rw [List.length_drop] at *
  omega

end Go.Proofs.Ytedbdejhpjkofaa
