/- Plain functions on bytes and numbers: what a code is, taken apart. No Go, no program. -/
namespace Hd

/-- how many registers an instruction has -/
def regs (k : Nat) : Nat :=
  if k = 1 then 1 else if k = 2 ∨ k = 3 ∨ k = 4 then 2 else if k = 5 ∨ k = 10 then 1 else if k = 6 ∨ k = 7 ∨ k = 8 then 3 else if k = 9 then 2 else 0

/-- how many bytes more -/
def more (k : Nat) : Nat := if k = 1 then 8 else if k = 9 then 1 else 0

/-- is it one -/
def known (k : Nat) : Bool := decide (1 ≤ k ∧ k ≤ 11)

/-- how long an instruction is -/
def size (k : Nat) : Nat := 1 + regs k + more k

/-- bytes as a number, the highest first -/
def numU (l : List UInt8) : Nat := l.foldl (fun n b => n * 256 + b.toNat) 0

theorem numU_nil : numU [] = 0 := rfl
theorem numU_snoc (l : List UInt8) (b : UInt8) : numU (l ++ [b]) = numU l * 256 + b.toNat := by simp [numU]
theorem numU_lt (l : List UInt8) : numU l < 256 ^ l.length := by
  suffices h : ∀ (n : Nat) (m : List UInt8), m.length = n → numU m < 256 ^ n by exact h _ l rfl
  intro n
  induction n with
  | zero => intro m hm; rw [List.eq_nil_of_length_eq_zero hm]; decide
  | succ n ih =>
    intro m hm
    have hne : m ≠ [] := by intro h; rw [h] at hm; cases hm
    have he := List.dropLast_concat_getLast hne
    have hl : m.dropLast.length = n := by simp [hm]
    rw [← he, numU_snoc]
    have h1 := ih _ hl
    have h2 : (m.getLast hne).toNat < 256 := UInt8.toNat_lt _
    have h3 : 256 ^ (n + 1) = 256 ^ n * 256 := Nat.pow_succ _ _
    omega

theorem or_byte (m b : Nat) (hb : b < 256) : (m * 256) ||| b = m * 256 + b := by
  have h := Nat.shiftLeft_add_eq_or_of_lt (i := 8) (b := b) (by omega) m
  rw [Nat.shiftLeft_eq] at h
  exact h.symm

theorem pow_le (k : Nat) (hk : k ≤ 7) : 256 ^ k ≤ 72057594037927936 := by
  have h := Nat.pow_le_pow_right (n := 256) (by decide) hk
  exact Nat.le_trans h (by decide)

theorem take_snoc (s : ByteArray) (k : Nat) (h : k < s.size) : s.data.toList.take (k + 1) = s.data.toList.take k ++ [s[k]] := by
  rw [List.take_succ_eq_append_getElem (by simpa using h)]; rfl

/-- an instruction, taken apart -/
structure Ins where
  kind : Nat
  a : Nat
  b : Nat
  c : Nat
  num : Nat

def byte (l : List UInt8) (i : Nat) : Nat := (l.getD i 0).toNat

theorem byte_lt (l : List UInt8) (i : Nat) : byte l i < 256 := UInt8.toNat_lt _

def insOf (l : List UInt8) : Ins :=
  { kind := byte l 0, a := if 0 < regs (byte l 0) then byte l 1 else 0, b := if 1 < regs (byte l 0) then byte l 2 else 0, c := if 2 < regs (byte l 0) then byte l 3 else 0,
    num := numU ((l.drop (1 + regs (byte l 0))).take (more (byte l 0))) }

/-- is the first instruction whole, and are its registers registers -/
def okOne (l : List UInt8) : Bool :=
  known (byte l 0) && (decide (size (byte l 0) ≤ l.length) && decide (∀ i, i < regs (byte l 0) → byte l (1 + i) < 8))

theorem byte_get (s : ByteArray) (i : Nat) (h : i < s.size) : byte s.data.toList i = (s[i]'h).toNat := by
  unfold byte
  rw [List.getD_eq_getElem?_getD, List.getElem?_eq_getElem (by simpa using h)]
  rfl

theorem regs_le (k : Nat) : regs k ≤ 3 := by unfold regs; (repeat' split) <;> omega
theorem more_le (k : Nat) : more k ≤ 8 := by unfold more; (repeat' split) <;> omega

theorem size_pos (k : Nat) : 0 < size k := by unfold size; omega

/-- where the instructions begin: f may come at most; p: where the text l begins; none: it is no procedure -/
def begs : Nat → Nat → List UInt8 → Option (List Nat)
  | _, _, [] => some []
  | 0, _, _ :: _ => none
  | f + 1, p, x :: r => if okOne (x :: r) = true then (begs f (p + size (byte (x :: r) 0)) ((x :: r).drop (size (byte (x :: r) 0)))).map (fun q => p :: q) else none

theorem begs_nil (f p : Nat) : begs f p [] = some [] := by cases f <;> rfl
theorem begs_zero (p : Nat) (l : List UInt8) (h : l ≠ []) : begs 0 p l = none := by
  cases l with
  | nil => exact absurd rfl h
  | cons x r => rfl
theorem begs_no (f p : Nat) (l : List UInt8) (h : l ≠ []) (hk : okOne l = false) : begs f p l = none := by
  cases l with
  | nil => exact absurd rfl h
  | cons x r => cases f with
    | zero => rfl
    | succ f => simp [begs, hk]
theorem begs_ok (f p : Nat) (l : List UInt8) (h : l ≠ []) (hk : okOne l = true) : begs (f + 1) p l = (begs f (p + size (byte l 0)) (l.drop (size (byte l 0)))).map (fun q => p :: q) := by
  cases l with
  | nil => exact absurd rfl h
  | cons x r => simp [begs, hk]

theorem okOne_size (l : List UInt8) (h : okOne l = true) : size (byte l 0) ≤ l.length := by
  unfold okOne at h
  simp only [Bool.and_eq_true, decide_eq_true_eq] at h
  exact h.2.1

/-- so far: ps begin, the next one at p -/
structure Far (L : List UInt8) (ps : List Nat) (p : Nat) : Prop where
  all : begs 256 0 L = (begs (256 - ps.length) p (L.drop p)).map (fun q => ps ++ q)
  few : ps.length ≤ 256
  le : p ≤ L.length
  each : ∀ q, q ∈ ps → okOne (L.drop q) = true ∧ q < L.length

theorem far_start (L : List UInt8) : Far L [] 0 := ⟨by simp, by simp, by simp, by simp⟩

theorem far_step {L : List UInt8} {ps : List Nat} {p : Nat} (h : Far L ps p) (hp : p < L.length) (hk : okOne (L.drop p) = true) (hl : ps.length < 256) : Far L (ps ++ [p]) (p + size (byte (L.drop p) 0)) := by
  have hne : L.drop p ≠ [] := by intro e; have := List.drop_eq_nil_iff.1 e; omega
  have hs := okOne_size _ hk
  rw [List.length_drop] at hs
  refine ⟨?_, by simp; omega, by omega, ?_⟩
  · rw [h.all]
    obtain ⟨f, hf⟩ : ∃ f, 256 - ps.length = f + 1 := ⟨255 - ps.length, by omega⟩
    have hf2 : 256 - (ps ++ [p]).length = f := by simp; omega
    rw [hf, hf2, begs_ok f p _ hne hk, List.drop_drop]
    cases begs f (p + size (byte (L.drop p) 0)) (L.drop (p + size (byte (L.drop p) 0))) <;> simp
  · intro q hq
    rcases List.mem_append.1 hq with hq | hq
    · exact h.each q hq
    · rw [List.mem_singleton.1 hq]; exact ⟨hk, hp⟩

theorem far_end {L : List UInt8} {ps : List Nat} {p : Nat} (h : Far L ps p) (hp : L.length ≤ p) : begs 256 0 L = some ps := by
  rw [h.all, List.drop_eq_nil_of_le hp, begs_nil]; simp
theorem far_full {L : List UInt8} {ps : List Nat} {p : Nat} (h : Far L ps p) (hp : p < L.length) (hl : ps.length = 256) : begs 256 0 L = none := by
  have hne : L.drop p ≠ [] := by intro e; have := List.drop_eq_nil_iff.1 e; omega
  rw [h.all, hl, begs_zero _ _ hne]; rfl
theorem far_no {L : List UInt8} {ps : List Nat} {p : Nat} (h : Far L ps p) (hp : p < L.length) (hk : okOne (L.drop p) = false) : begs 256 0 L = none := by
  have hne : L.drop p ≠ [] := by intro e; have := List.drop_eq_nil_iff.1 e; omega
  rw [h.all, begs_no _ _ _ hne hk]; rfl

/-- the instructions that begin at ps -/
def insAt (L : List UInt8) (ps : List Nat) : List Ins := ps.map (fun q => insOf (L.drop q))

/-- no Less passes over more than come behind it -/
def within (l : List Ins) : Bool := decide (∀ i, i < l.length → (l.getD i ⟨0, 0, 0, 0, 0⟩).kind = 9 → (l.getD i ⟨0, 0, 0, 0, 0⟩).num + i + 1 ≤ l.length)

/-- the procedure that a code is -/
def prog (L : List UInt8) : Option (List Nat) :=
  match begs 256 0 L with
  | none => none
  | some ps => if within (insAt L ps) = true then some ps else none

end Hd
