import Derived.Test.YtedbdejhpjkofaaPlain4
/- Plain functions: an instruction as bytes, and back. No Go, no program. -/
namespace Hd
set_option linter.unusedSimpArgs false

def enc8 (n : Nat) : List UInt8 := [UInt8.ofNat (n / 72057594037927936 % 256), UInt8.ofNat (n / 281474976710656 % 256), UInt8.ofNat (n / 1099511627776 % 256), UInt8.ofNat (n / 4294967296 % 256), UInt8.ofNat (n / 16777216 % 256), UInt8.ofNat (n / 65536 % 256), UInt8.ofNat (n / 256 % 256), UInt8.ofNat (n % 256)]

theorem u8_nat (n : Nat) (h : n < 256) : (UInt8.ofNat n).toNat = n := by
  rw [UInt8.toNat_ofNat']; omega

theorem numU_enc8 (n : Nat) (h : n < 18446744073709551616) : numU (enc8 n) = n := by
  unfold numU enc8
  simp only [List.foldl_cons, List.foldl_nil]
  rw [u8_nat _ (Nat.mod_lt _ (by decide)), u8_nat _ (Nat.mod_lt _ (by decide)), u8_nat _ (Nat.mod_lt _ (by decide)), u8_nat _ (Nat.mod_lt _ (by decide)), u8_nat _ (Nat.mod_lt _ (by decide)), u8_nat _ (Nat.mod_lt _ (by decide)), u8_nat _ (Nat.mod_lt _ (by decide)), u8_nat _ (Nat.mod_lt _ (by decide))]
  omega

/-- the bytes of an instruction -/
def encI (i : Ins) : List UInt8 :=
  UInt8.ofNat i.kind :: ((if 0 < regs i.kind then [UInt8.ofNat i.a] else []) ++ ((if 1 < regs i.kind then [UInt8.ofNat i.b] else []) ++ ((if 2 < regs i.kind then [UInt8.ofNat i.c] else []) ++ (if i.kind = 1 then enc8 i.num else if i.kind = 9 then [UInt8.ofNat i.num] else []))))

/-- an instruction that bytes can say -/
structure Plain (i : Ins) : Prop where
  known : 1 ≤ i.kind ∧ i.kind ≤ 11
  ra : i.a < 8 ∧ (regs i.kind ≤ 0 → i.a = 0)
  rb : i.b < 8 ∧ (regs i.kind ≤ 1 → i.b = 0)
  rc : i.c < 8 ∧ (regs i.kind ≤ 2 → i.c = 0)
  num : if i.kind = 1 then i.num < 18446744073709551616 else if i.kind = 9 then i.num < 256 else i.num = 0

theorem byte0 (i : Ins) (h : Plain i) (r : List UInt8) : byte (encI i ++ r) 0 = i.kind := by
  unfold byte encI
  simp only [List.cons_append, List.getD_cons_zero]
  exact u8_nat _ (by have := h.known; omega)

theorem enc_facts (i : Ins) (h : Plain i) (r : List UInt8) : okOne (encI i ++ r) = true ∧ (encI i).length = size i.kind ∧ insOf (encI i ++ r) = i := by
  have hk := h.known
  have h0 := byte0 i h r
  obtain ⟨ra, za⟩ := h.ra
  obtain ⟨rb, zb⟩ := h.rb
  obtain ⟨rc, zc⟩ := h.rc
  have hn := h.num
  have ua := u8_nat i.a (by omega)
  have ub := u8_nat i.b (by omega)
  have uc := u8_nat i.c (by omega)
  obtain ⟨k, a, b, c, n⟩ := i
  simp only at hk h0 ra za rb zb rc zc hn ua ub uc
  have hc : k = 1 ∨ k = 2 ∨ k = 3 ∨ k = 4 ∨ k = 5 ∨ k = 6 ∨ k = 7 ∨ k = 8 ∨ k = 9 ∨ k = 10 ∨ k = 11 := by omega
  unfold okOne insOf
  rw [h0]
  rcases hc with rfl | rfl | rfl | rfl | rfl | rfl | rfl | rfl | rfl | rfl | rfl
  all_goals
    simp only [regs, more, size, known, encI, Nat.reduceEqDiff, if_true, if_false, or_true, true_or, or_false, false_or, Nat.reduceLT, Nat.reduceLeDiff, Nat.reduceAdd, Nat.lt_irrefl, Nat.zero_lt_one, Nat.le_refl, forall_const, List.nil_append, List.cons_append, List.append_nil] at *
  · have hnum := numU_enc8 n hn
    have hl : (enc8 n).length = 8 := rfl
    refine ⟨?_, ?_, ?_⟩
    · simp [byte, enc8, ua, ra]
    · simp [enc8]
    · simp [byte, ua, zb, zc]
      rw [List.take_append_of_le_length (by omega), List.take_of_length_le (by omega)]
      exact hnum
  all_goals
    refine ⟨?_, ?_, ?_⟩
    · simp [byte]
      try (intro i hi; have hi2 : i = 0 ∨ i = 1 ∨ i = 2 := by omega)
      try (rcases hi2 with rfl | rfl | rfl <;> simp [ua, ub, uc, ra, rb, rc] <;> omega)
      try omega
    · simp
    · simp [byte, ua, ub, uc, za, zb, zc, hn, numU]

/-- where the instructions begin -/
def starts : Nat → List Ins → List Nat
  | _, [] => []
  | p, i :: r => p :: starts (p + size i.kind) r

theorem begs_enc : ∀ (Is : List Ins) (f p : Nat), (∀ i, i ∈ Is → Plain i) → Is.length ≤ f → begs f p (Is.flatMap encI) = some (starts p Is) := by
  intro Is
  induction Is with
  | nil => intro f p _ _; exact begs_nil f p
  | cons i r ih =>
    intro f p h hf
    obtain ⟨f', rfl⟩ : ∃ f', f = f' + 1 := ⟨f - 1, by simp at hf; omega⟩
    rw [List.flatMap_cons]
    obtain ⟨h1, h2, h3⟩ := enc_facts i (h i (by simp)) (r.flatMap encI)
    have hb := byte0 i (h i (by simp)) (r.flatMap encI)
    have hne : encI i ++ r.flatMap encI ≠ [] := by unfold encI; simp
    rw [begs_ok f' p _ hne h1, hb, ← h2, List.drop_left, h2, ih f' _ (fun j hj => h j (by simp [hj])) (by simp at hf; omega)]
    rfl

theorem insAt_enc : ∀ (Is : List Ins) (p : Nat) (pre : List UInt8), pre.length = p → (∀ i, i ∈ Is → Plain i) → insAt (pre ++ Is.flatMap encI) (starts p Is) = Is := by
  intro Is
  induction Is with
  | nil => intro p pre _ _; rfl
  | cons i r ih =>
    intro p pre hp h
    obtain ⟨h1, h2, h3⟩ := enc_facts i (h i (by simp)) (r.flatMap encI)
    unfold insAt starts
    rw [List.map_cons, List.flatMap_cons]
    have e1 : (pre ++ (encI i ++ r.flatMap encI)).drop p = encI i ++ r.flatMap encI := by rw [← hp, List.drop_left]
    rw [e1, h3]
    congr 1
    have := ih (p + size i.kind) (pre ++ encI i) (by rw [List.length_append, h2, hp]) (fun j hj => h j (by simp [hj]))
    rw [List.append_assoc] at this
    exact this

/-- the procedure that such bytes are -/
theorem prog_enc (Is : List Ins) (h : ∀ i, i ∈ Is → Plain i) (hl : Is.length ≤ 256) (hw : within Is = true) : prog (Is.flatMap encI) = some (starts 0 Is) ∧ insAt (Is.flatMap encI) (starts 0 Is) = Is := by
  have h1 := begs_enc Is 256 0 h hl
  have h2 := insAt_enc Is 0 [] rfl h
  rw [List.nil_append] at h2
  refine ⟨?_, h2⟩
  unfold prog
  rw [h1]
  simp only
  rw [h2, if_pos hw]

end Hd
