import Derived.Test.YtedbdejhpjkofaaPlain7
/- Plain functions: pairs put one after another, by their keys; what stays within a set of numbers. No Go, no program. -/
namespace Hd
set_option linter.unusedSimpArgs false
set_option linter.unusedVariables false

theorem ofPairs_cons (p : Int × Int) (r : List (Int × Int)) (k : Int) : ofPairs (p :: r) k = if p.1 = k then some p.2 else ofPairs r k := by
  unfold ofPairs
  rw [List.find?_cons]
  by_cases h : p.1 = k
  · simp [h]
  · have : (p.1 == k) = false := by simp [h]
    rw [this, if_neg h]

def gone (key : Int) (L : List (Int × Int)) : List (Int × Int) := L.filter (fun p => decide (p.1 ≠ key))

def ins (key val : Int) : List (Int × Int) → List (Int × Int)
  | [] => [(key, val)]
  | p :: r => if p.1 < key then p :: ins key val r else if p.1 = key then (key, val) :: gone key r else (key, val) :: p :: gone key r

theorem fold_laid (key val : Int) (L : List (Int × Int)) (o : List (Int × Int)) : L.foldl (putF key val) (o, true) = (o ++ gone key L, true) := by
  induction L generalizing o with
  | nil => simp [gone]
  | cons p r ih =>
    rw [List.foldl_cons]
    by_cases h : p.1 = key
    · have e : putF key val (o, true) p = (o, true) := by simp [putF, h]
      rw [e, ih]
      simp [gone, h]
    · have e : putF key val (o, true) p = (o ++ [p], true) := by simp [putF, h]
      rw [e, ih]
      simp [gone, h]

theorem fold_open (key val : Int) (L : List (Int × Int)) (o : List (Int × Int)) :
    (if (L.foldl (putF key val) (o, false)).2 = true then (L.foldl (putF key val) (o, false)).1 else (L.foldl (putF key val) (o, false)).1 ++ [(key, val)]) = o ++ ins key val L := by
  induction L generalizing o with
  | nil => simp [ins]
  | cons p r ih =>
    rw [List.foldl_cons]
    by_cases h1 : p.1 < key
    · have e : putF key val (o, false) p = (o ++ [p], false) := by simp [putF, h1]
      rw [e, ih]
      simp [ins, h1]
    · by_cases h2 : p.1 = key
      · have e : putF key val (o, false) p = (o ++ [(key, val)], true) := by simp [putF, h1, h2]
        rw [e, fold_laid]
        simp [ins, h1, h2]
      · have e : putF key val (o, false) p = (o ++ [(key, val)] ++ [p], true) := by simp [putF, h1, h2]
        rw [e, fold_laid]
        simp [ins, h1, h2]

theorem putL_is (L : List (Int × Int)) (key val : Int) : putL L key val true = ins key val L := by
  have h := fold_open key val L []
  simpa [putL] using h
theorem putL_not (L : List (Int × Int)) (key val : Int) : putL L key val false = gone key L := by
  unfold putL
  rw [show (!false) = true from rfl, fold_laid]
  simp

theorem ofPairs_gone (key : Int) (L : List (Int × Int)) : ofPairs (gone key L) = upd (ofPairs L) key none := by
  funext k
  induction L with
  | nil => simp [gone, upd, ofPairs]
  | cons p r ih =>
    unfold gone at ih ⊢
    by_cases h : p.1 = key
    · rw [List.filter_cons_of_neg (by simp [h]), ih]
      unfold upd
      by_cases e : k = key
      · rw [if_pos e, if_pos e]
      · rw [if_neg e, if_neg e, ofPairs_cons, if_neg (by omega)]
    · rw [List.filter_cons_of_pos (by simp [h]), ofPairs_cons, ih]
      unfold upd
      by_cases e : k = key
      · rw [if_pos e, if_pos e, if_neg (by omega)]
      · rw [if_neg e, if_neg e, ofPairs_cons]

theorem ofPairs_ins (key val : Int) (L : List (Int × Int)) : ofPairs (ins key val L) = upd (ofPairs L) key (some val) := by
  funext k
  induction L with
  | nil => simp only [ins, ofPairs_cons, upd]; by_cases e : k = key <;> simp [e, Ne.symm, ofPairs, eq_comm]
  | cons p r ih =>
    unfold ins
    by_cases h1 : p.1 < key
    · rw [if_pos h1, ofPairs_cons, ih]
      unfold upd
      by_cases e : k = key
      · rw [if_pos e, if_pos e, if_neg (by omega)]
      · rw [if_neg e, if_neg e, ofPairs_cons]
    · rw [if_neg h1]
      by_cases h2 : p.1 = key
      · rw [if_pos h2, ofPairs_cons, ofPairs_gone]
        unfold upd
        by_cases e : k = key
        · rw [if_pos (by simp; omega), if_pos e]
        · rw [if_neg e, if_neg e, if_neg (by simp; omega), ofPairs_cons, if_neg (by omega)]
      · rw [if_neg h2, ofPairs_cons, ofPairs_cons, ofPairs_gone]
        unfold upd
        by_cases e : k = key
        · rw [if_pos (by simp; omega), if_pos e]
        · rw [if_neg e, if_neg e, if_neg (by simp; omega), ofPairs_cons]

theorem ofPairs_putL (L : List (Int × Int)) (key val : Int) (is : Bool) : ofPairs (putL L key val is) = upd (ofPairs L) key (if is then some val else none) := by
  cases is with
  | true => rw [putL_is, ofPairs_ins]; rfl
  | false => rw [putL_not, ofPairs_gone]; rfl

/-- by keys, none twice -/
def up (L : List (Int × Int)) : Prop := L.Pairwise (fun p q => p.1 < q.1)

theorem up_gone {key : Int} {L : List (Int × Int)} (h : up L) : up (gone key L) := List.Pairwise.filter _ h

theorem mem_ins {key val : Int} {L : List (Int × Int)} {q : Int × Int} (h : q ∈ ins key val L) : q = (key, val) ∨ q ∈ L := by
  induction L with
  | nil => simp [ins] at h; exact .inl h
  | cons p r ih =>
    unfold ins at h
    split at h
    · rcases List.mem_cons.1 h with h | h
      · exact .inr (by simp [h])
      · exact (ih h).imp id (fun x => by simp [x])
    · split at h
      · rcases List.mem_cons.1 h with h | h
        · exact .inl h
        · exact .inr (List.mem_cons_of_mem _ ((List.mem_filter.1 h).1))
      · rcases List.mem_cons.1 h with h | h
        · exact .inl h
        · rcases List.mem_cons.1 h with h | h
          · exact .inr (by simp [h])
          · exact .inr (List.mem_cons_of_mem _ ((List.mem_filter.1 h).1))

theorem up_ins {key val : Int} {L : List (Int × Int)} (h : up L) : up (ins key val L) := by
  induction L with
  | nil => simp [ins, up]
  | cons p r ih =>
    unfold up at h ih
    rw [List.pairwise_cons] at h
    unfold ins
    split
    · rename_i h1
      unfold up
      rw [List.pairwise_cons]
      refine ⟨?_, ih h.2⟩
      intro q hq
      rcases mem_ins hq with rfl | hq
      · exact h1
      · exact h.1 q hq
    · rename_i h1
      split
      · rename_i h2
        unfold up
        rw [List.pairwise_cons]
        refine ⟨?_, List.Pairwise.filter _ h.2⟩
        intro q hq
        have := h.1 q ((List.mem_filter.1 hq).1)
        show key < q.1
        omega
      · rename_i h2
        unfold up
        rw [List.pairwise_cons, List.pairwise_cons]
        refine ⟨?_, fun q hq => h.1 q ((List.mem_filter.1 hq).1), List.Pairwise.filter _ h.2⟩
        intro q hq
        show key < q.1
        rcases List.mem_cons.1 hq with rfl | hq
        · omega
        · have := h.1 q ((List.mem_filter.1 hq).1)
          omega

theorem up_putL {L : List (Int × Int)} (h : up L) (key val : Int) (is : Bool) : up (putL L key val is) := by
  cases is with
  | true => rw [putL_is]; exact up_ins h
  | false => rw [putL_not]; exact up_gone h

theorem len_putL (L : List (Int × Int)) (key val : Int) (is : Bool) : (putL L key val is).length ≤ L.length + 1 := by
  have hg : ∀ L, (gone key L).length ≤ L.length := fun L => List.length_filter_le _ _
  cases is with
  | true =>
    rw [putL_is]
    induction L with
    | nil => simp [ins]
    | cons p r ih =>
      unfold ins
      have := hg r
      split
      · simp only [List.length_cons]; omega
      · split <;> simp only [List.length_cons] <;> omega
  | false => rw [putL_not]; have := hg L; omega

/-- marks, one after another -/
def putMs (L : List (Int × Int)) (ms : List Mark) : List (Int × Int) := ms.foldl (fun l m => putL l m.key m.val m.is) L

theorem putMs_snoc (L : List (Int × Int)) (ms : List Mark) (m : Mark) : putMs L (ms ++ [m]) = putL (putMs L ms) m.key m.val m.is := by simp [putMs]

theorem up_putMs {L : List (Int × Int)} (h : up L) (ms : List Mark) : up (putMs L ms) := by
  induction ms generalizing L with
  | nil => exact h
  | cons m r ih => exact ih (up_putL h _ _ _)

theorem len_putMs (L : List (Int × Int)) (ms : List Mark) : (putMs L ms).length ≤ L.length + ms.length := by
  induction ms generalizing L with
  | nil => simp [putMs]
  | cons m r ih =>
    have h1 := ih (putL L m.key m.val m.is)
    have h2 := len_putL L m.key m.val m.is
    show (putMs (putL L m.key m.val m.is) r).length ≤ L.length + (r.length + 1)
    omega

theorem ofPairs_putMs (L : List (Int × Int)) (ms : List Mark) : ofPairs (putMs L ms) = lookS (ofPairs L) (marksW ms) := by
  have key : ∀ (n : Nat), n ≤ ms.length → ofPairs (putMs L (ms.take n)) = lookS (ofPairs L) (marksW (ms.take n)) := by
    intro n
    induction n with
    | zero => intro _; rw [List.take_zero, marksW_nil]; rfl
    | succ n ih =>
      intro h
      rw [List.take_succ_eq_append_getElem (by omega), putMs_snoc, ofPairs_putL, ih (by omega), marksW_snoc]
      funext k
      unfold upd lookS
      by_cases e : k = (ms[n]).key
      · simp only [if_pos e]
      · simp only [if_neg e]
  have := key ms.length (Nat.le_refl _)
  rwa [List.take_length] at this

/-- two lists in order with the same members -/
theorem sorted_same {a b : List Int} (ha : a.Pairwise (· < ·)) (hb : b.Pairwise (· < ·)) (hm : ∀ x, x ∈ a ↔ x ∈ b) : a = b := by
  induction a generalizing b with
  | nil =>
    cases b with
    | nil => rfl
    | cons y s => have := (hm y).2 (by simp); simp at this
  | cons x r ih =>
    cases b with
    | nil => have := (hm x).1 (by simp); simp at this
    | cons y s =>
      rw [List.pairwise_cons] at ha hb
      have hxy : x = y := by
        rcases List.mem_cons.1 ((hm x).1 (by simp)) with h | h
        · exact h
        · rcases List.mem_cons.1 ((hm y).2 (by simp)) with h' | h'
          · exact h'.symm
          · have := hb.1 x h; have := ha.1 y h'; omega
      subst hxy
      congr 1
      refine ih ha.2 hb.2 ?_
      intro z
      have := hm z
      constructor
      · intro hz
        rcases List.mem_cons.1 (this.1 (List.mem_cons_of_mem _ hz)) with h | h
        · subst h; have := ha.1 z hz; omega
        · exact h
      · intro hz
        rcases List.mem_cons.1 (this.2 (List.mem_cons_of_mem _ hz)) with h | h
        · subst h; have := hb.1 z hz; omega
        · exact h

theorem ofPairs_up {L : List (Int × Int)} (h : up L) : ∀ p ∈ L, ofPairs L p.1 = some p.2 := by
  induction L with
  | nil => intro p hp; simp at hp
  | cons q r ih =>
    unfold up at h ih
    rw [List.pairwise_cons] at h
    intro p hp
    rw [ofPairs_cons]
    rcases List.mem_cons.1 hp with rfl | hp
    · rw [if_pos rfl]
    · have := h.1 p hp
      rw [if_neg (by omega)]
      exact ih h.2 p hp

theorem mem_of_isSome {L : List (Int × Int)} {k : Int} : (ofPairs L k).isSome = true ↔ k ∈ L.map (·.1) := by
  cases h : ofPairs L k with
  | none => rw [ofPairs_none] at h; simp only [Option.isSome_none]; constructor
            · intro x; cases x
            · intro x; exact absurd x h
  | some v =>
    simp only [Option.isSome_some, true_iff]
    refine Classical.byContradiction fun hn => ?_
    rw [← ofPairs_none, h] at hn
    cases hn

/-- the whole list, by what stands under its keys -/
theorem list_of_keys {L : List (Int × Int)} (h : up L) {ks : List Int} (hk : ks.Pairwise (· < ·)) (hm : ∀ k, k ∈ ks ↔ (ofPairs L k).isSome = true) : ks.map (fun k => (k, (ofPairs L k).getD 0)) = L := by
  have hs : (L.map (·.1)).Pairwise (· < ·) := List.pairwise_map.2 h
  have e : ks = L.map (·.1) := sorted_same hk hs (fun x => by rw [hm x, mem_of_isSome])
  rw [e, List.map_map]
  have : ∀ p ∈ L, ((fun k => (k, (ofPairs L k).getD 0)) ∘ fun x => x.1) p = p := by
    intro p hp
    show (p.1, (ofPairs L p.1).getD 0) = p
    rw [ofPairs_up h p hp]
    rfl
  rw [List.map_congr_left this]
  simp

/-- all numbers of a run stay within a set -/
structure Within (P : Int → Prop) (s : St) : Prop where
  rs : ∀ a, P (s.rs.getD a 0)
  W : ∀ k c, s.W k = some c → P k ∧ ∀ v, c = some v → P v
  T : ∀ x ∈ s.T, P x
  R : ∀ x ∈ s.R, P x

theorem getD_set {rs : List Int} {a b : Nat} {v : Int} : (rs.set a v).getD b 0 = v ∨ (rs.set a v).getD b 0 = rs.getD b 0 := by
  simp only [List.getD_eq_getElem?_getD, List.getElem?_set]
  by_cases h : a = b
  · rw [if_pos h]
    by_cases h2 : a < rs.length
    · rw [if_pos h2]; exact .inl rfl
    · rw [if_neg h2]
      right
      subst h
      rw [List.getElem?_eq_none (by omega)]
  · rw [if_neg h]; exact .inr rfl

theorem Within.set {P : Int → Prop} {s : St} (h : Within P s) (a : Nat) {v : Int} (hv : P v) : Within P { s with rs := s.rs.set a v } :=
  ⟨fun b => by rcases getD_set (rs := s.rs) (a := a) (b := b) (v := v) with e | e
               · show P ((s.rs.set a v).getD b 0); rw [e]; exact hv
               · show P ((s.rs.set a v).getD b 0); rw [e]; exact h.rs b, h.W, h.T, h.R⟩

theorem Within.look {P : Int → Prop} {s : St} (h : Within P s) {S : Int → Option Int} (h0 : P 0) (hS : ∀ k v, S k = some v → P v) (k : Int) : P ((lookS S s.W k).getD 0) := by
  unfold lookS
  cases hw : s.W k with
  | some c =>
    cases c with
    | none => exact h0
    | some v => exact (h.W k _ hw).2 v rfl
  | none =>
    cases hs : S k with
    | none => exact h0
    | some v => exact hS k v hs

theorem Within.step {P : Int → Prop} {s : St} (h : Within P s) {S : Int → Option Int} (h0 : P 0) (h1 : P 1) (hw : ∀ n, P (w64 n)) (hS : ∀ k v, S k = some v → P v) (i : Ins) : Within P (stepS S i s) := by
  unfold stepS
  have hrd : ∀ x ∈ s.R ++ [s.rs.getD i.b 0], P x := fun x hx => by
    rcases List.mem_append.1 hx with hx | hx
    · exact h.R x hx
    · simp at hx; subst hx; have := h.rs i.b; simpa using this
  have hput : ∀ c : Option Int, (∀ v, c = some v → P v) → ∀ k c', upd s.W (s.rs.getD i.a 0) (some c) k = some c' → P k ∧ ∀ v, c' = some v → P v := by
    intro c hc k c' hk
    unfold upd at hk
    split at hk
    · rename_i e
      injection hk with hk
      subst hk
      exact ⟨by rw [e]; exact h.rs _, hc⟩
    · exact h.W k c' hk
  split
  · exact h.set _ (hw _)
  split
  · have h2 := h.set i.a (h.look h0 hS (s.rs.getD i.b 0))
    exact ⟨h2.rs, h2.W, h2.T, hrd⟩
  split
  · have h2 := h.set i.a (v := if (lookS S s.W (s.rs.getD i.b 0)).isSome then 1 else 0) (by split; exact h1; exact h0)
    exact ⟨h2.rs, h2.W, h2.T, hrd⟩
  split
  · exact ⟨h.rs, hput _ (fun v hv => by injection hv with hv; subst hv; exact h.rs _), h.T, h.R⟩
  split
  · exact ⟨h.rs, hput _ (fun v hv => by cases hv), h.T, h.R⟩
  split
  · exact h.set _ (hw _)
  split
  · exact h.set _ (hw _)
  split
  · exact h.set _ (hw _)
  · refine ⟨h.rs, h.W, ?_, h.R⟩
    intro x hx
    rcases List.mem_append.1 hx with hx | hx
    · exact h.T x hx
    · simp at hx; subst hx; have := h.rs i.a; simpa using this

theorem runS_within {P : Int → Prop} {S : Int → Option Int} (h0 : P 0) (h1 : P 1) (hw : ∀ n, P (w64 n)) (hS : ∀ k v, S k = some v → P v) (Is : List Ins) : ∀ (f p : Nat) (s : St), Within P s → Within P (runS S Is f p s).2 := by
  intro f
  induction f with
  | zero => intro p s h; exact h
  | succ f ih =>
    intro p s h
    unfold runS
    split
    · split
      · exact ⟨h.rs, (fun k c hk => by cases hk), h.T, h.R⟩
      split
      · split
        · exact ih _ _ h
        · exact ih _ _ h
      · exact ih _ _ (h.step h0 h1 hw hS _)
    · exact h

theorem runAll_within {P : Int → Prop} {S : Int → Option Int} (h0 : P 0) (h1 : P 1) (hw : ∀ n, P (w64 n)) (hS : ∀ k v, S k = some v → P v) (Is : List Ins) : Within P (runAll S Is).2 := by
  refine runS_within h0 h1 hw hS Is _ _ _ ⟨?_, ?_, ?_, ?_⟩
  · intro a
    have : a = 0 ∨ a = 1 ∨ a = 2 ∨ a = 3 ∨ a = 4 ∨ a = 5 ∨ a = 6 ∨ a = 7 ∨ 8 ≤ a := by omega
    rcases this with rfl | rfl | rfl | rfl | rfl | rfl | rfl | rfl | h
    all_goals first | exact h0 | skip
    show P (([0, 0, 0, 0, 0, 0, 0, 0] : List Int).getD a 0)
    rw [List.getD_eq_getElem?_getD, List.getElem?_eq_none (by simp; omega)]
    exact h0
  · intro k c h; cases h
  · intro x h; simp at h
  · intro x h; simp at h

end Hd
